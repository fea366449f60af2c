import PyProof.Rows.All
import Wide.All
import OpenK.AllK
import Wide.FinOn
import HandS.Codes
import HandS.ForMost
import HandS.Wide
import HandS.Zip
import HandS.IsInst
import HandS.Defaults
import HandS.Style
import HandS.ForExc
import HandS.Walk
import HandS.More
import HandS.CallLocal
import HandS.WideBits
import KE.BitLaws
import KE.KBits
import HandS.FStr
import PyProof.FitsInt
import HandS.TryOnly
import HandS.Star
import HandS.Flow
import HandS.OwnEq
import HandS.DeepEq
import HandS.Conv
import OpenK.KEqL
import KE.IntBitsLaws
import KE.GoesMore
import KE.KTurns
import HandS.Iter
import HandS.TupAny
import KE.KEqSeq
import HandS.Dict
import HandS.Set
import HandS.SetFor
import HandS.Strs
import HandS.ExcField
import HandS.ExcIs
import KE.KExcSuper
import KE.KExcInit
import KE.KExcIs
import HandS.Deep
import HandS.CallSlots
import KE.RegKSuper
import KE.RegKIsAll
import KE.RegKTryMore
import KE.KNestM
import HandS.EndTab
import KE.KStateDown
import HandS.Words
import HandS.WordsExc
import HandS.Head0
import HandS.Head1
import HandS.Head2
import HandS.HeadEnd
import HandS.HeadHook1
import HandS.HeadHook2
import HandS.HeadHook3
import HandS.HeadHook4
import PySem.Challenge.RW_echobound_k38_the_same_without_times
set_option Elab.async false
set_option linter.all false
set_option maxRecDepth 100000
set_option maxHeartbeats 4000000
namespace PySem
namespace ErrX
open PySem.W PySem.Calls PyProof.Rows PySem.HandSPX
abbrev bmA : List Value := [.type "ArithmeticError", .type "Exception", .type "BaseException", .type "object"]
/-- what the written part says of an error class under ArithmeticError -/
structure ErrC (K : Frag) (mg : Str → Option Value) (x : Str) (C : Addr) : Prop where
  gC : mg x = some (.ref C)
  ei : excInitIn K C bmA "ArithmeticError.__new__" = true
  eo : excOver K C bmA = true
  sa : findIn K (.ref C) "__setattr__" = some (some (.builtin "object.__setattr__"))
  ga : findIn K (.ref C) "__getattribute__" = some (some (.builtin "BaseException.__getattribute__"))
  gg : findIn K (.ref C) "__getattr__" = some none
  kC : keepIn K (.ref C) = true
  exC : subIn K (.ref C) (.type "BaseException") = some true
  tyC : typeIn K (.ref C) = some (.type "type")
  hdC : hasDictIn K C = true
/-- its __init__: super().__init__(f'..'), then one field of the same name as the parameter -/
structure IniC (prog : Program) (K : Frag) (mg : Str → Option Value) (C fI cc : Addr) (qual fld : Str) (st : Stmt) (dV : Value) : Prop where
  iC : findIn K (.ref C) "__init__" = some (some (.ref fI))
  tC : typeIn K (.ref fI) = some (.type "function")
  fn : ∃ (oc : Value) (od : Option Addr) (kV doc pm : Value) (an : Option Addr) (cda : Addr) (ct : Value) (osl : Array (Option Value)),
    K.lookup fI = some ⟨oc, od, .func (ksFn "__init__" qual (L2.defArgs st) (L2.defBody st) (L2.defScope st) dV kV doc pm an (.ref cda) ct cc), osl⟩ ∧ codeIn K (.ref cda) qual = true ∧
    ∃ (ccl : Value) (cdd : Option Addr) (vs : Array Value) (ccs : Array (Option Value)) (file : Str) (tf : Tok), K.lookup cda = some ⟨ccl, cdd, .fields vs, ccs⟩ ∧ vs[2]? = some (.str file tf) ∧ ((prog.main.file : Str) == file) = true
  cell : ∃ (cl : Value) (cld : Option Addr) (csl : Array (Option Value)), K.lookup cc = some ⟨cl, cld, .cell (some (.ref C)), csl⟩
  noF : findIn K (.ref C) fld = some none
  sup : ks_superIn K C C "__init__" = some (some (.builtin "ArithmeticError.__init__"))
  subA : subIn K (.ref C) (.type "ArithmeticError") = some true
  slf : mroIn K C (.ref C) = some true
  th : nsIn K cStatics "thirdparty.any" = some none
  msup : mg "super" = none
  top : (prog.main.scope.names.lookup ("super" : Str)).isSome = false
/-- the parts of the text -/
inductive FP (fld : Str) : Expr → Prop
  | c {x : Str} {j : Nat} {pos : Pos} (h : x.length ≤ 1000) : FP fld (.Constant (.str x) j pos)
  | f {p q : Pos} : FP fld (.FormattedValue (.Name fld p) (-1) none q)
/-- a value that is written as a text of at most a thousand signs -/
def FmtOk (v : Value) : Prop := (∃ y t, v = .str y t ∧ y.length ≤ 1000) ∨ ∃ i t, v = .int i t ∧ i.natAbs.log2 < 1920 ∧ (toString i : String).length ≤ 1000
section
variable {prog : Program} {w : World} {A : Around} {E : Value → Shared → Prop} {R : Result → Shared → Prop} {s : Shared} {K : Frag} {mg mb : Str → Option Value} {C fI cc : Addr} {qual fld : Str} {st : Stmt}
theorem joins_ok {env : Env} {m : Str → Option Value} {v : Value} (hk : env.scope.kind = .function) (hl : env.kindOf fld = some .local) (hd : (fld == ("__debug__" : Str)) = false) (hv : m fld = some v) (fv : FmtOk v) :
    ∀ (es : List Expr) (acc : Str) (s : Shared) (Q : Str → Shared → Prop), (∀ e ∈ es, FP fld e) → acc.length + 1000 * es.length ≤ 100000 → s.heap.Ns env.locals m →
      (∀ out tk, out.length ≤ 100000 → Q out { s with toks := tk }) → Joins (model prog w) A E (evalEach es env) acc Q s
  | [], acc, s, Q, _, hz, _, hq => by
    have e0 : evalEach [] env = [] := by first | rfl | simp [evalEach]
    rw [e0]
    have := hq acc s.toks (by simpa using hz)
    exact this
  | e :: es, acc, s, Q, hp, hz, hn, hq => by
    have e0 : evalEach (e :: es) env = eval e env :: evalEach es env := by first | rfl | simp [evalEach]
    rw [e0]
    have hp' : ∀ e ∈ es, FP fld e := fun e h => hp e (List.mem_cons_of_mem _ h)
    rw [List.length_cons] at hz
    have step : ∀ (y : Str) (t : Tok) (tk : Nat), y.length ≤ 1000 → ∃ y' t', Value.str y t = .str y' t' ∧ (acc ++ y').length ≤ sizeLine ∧ Joins (model prog w) A E (evalEach es env) (acc ++ y') Q { s with toks := tk } := fun y t tk hy => by
      have hlen : (acc ++ y).length = acc.length + y.length := by first | exact Str.length_append _ _ | simp
      refine ⟨y, t, rfl, ?_, ?_⟩
      · rw [hlen, sizeLine_eq]
        omega
      · exact joins_ok hk hl hd hv fv es (acc ++ y) { s with toks := tk } Q hp' (by rw [hlen]; omega) hn fun out tk' ho => hq out tk' ho
    show wpAny _ _ (eval e env) _ _ _
    cases hp e List.mem_cons_self with
    | c h => exact Calls.Constant_str (step _ _ _ h)
    | f =>
      refine wpAny_FormattedValue_plain (wpAny_Name (wpAny_loadName_local hk hl hn hv ?_) hd)
      rcases fv with ⟨y, t, rfl, hy⟩ | ⟨i, t, rfl, hi, hy⟩
      · exact wpAny_formatField_str (step y t s.toks hy) (step y _ _ hy) (by rw [sizeLine_eq]; omega)
      · exact wpAny_formatField_int hi (step _ _ _ (by rw [ofString_length]; exact hy))
end
end ErrX
end PySem

namespace PySem
namespace ErrX
open PySem.W PySem.Calls PyProof.Rows PySem.HandSPX
/-- a dict with one text for its key -/
theorem one_key {h : Heap} {dx : Addr} {fld : Str} {hs : Int} {tk : Tok} {v : Value} (e : h.get? dx = some (dictOf [⟨hs, .str fld tk, v⟩] 1)) : h.Ns1 dx (fun y => if y = fld then some v else none) := by
  refine ⟨_, _, _, e, rfl, fun d hd => ?_, List.pairwise_singleton _ _, fun y => ?_⟩
  · obtain rfl : d = ⟨hs, .str fld tk, v⟩ := by simpa using hd
    exact ⟨fld, tk, rfl⟩
  · by_cases z : y = fld
    · subst z
      simp [nsFind, findBy, Value.isStr]
    · simp [nsFind, findBy, Value.isStr, z, Ne.symm z]
/-- what __init__ leaves of a fresh error at x -/
structure IniEnd (h h' : Heap) (x C dx : Addr) (fld : Str) (v : Value) : Prop where
  keep : ∀ b o, b ≠ x → h.get? b = some o → h'.get? b = some o
  obj : ∃ t1 : Addr, h'.get? x = some { cls := .ref C, dict := some dx, data := .fields #[.ref t1, .none, .none, .none, .bool false, .none] }
  dbig : h.objs.size ≤ dx
  dne : dx ≠ x
  ns : h'.Ns1 dx (fun y => if y = fld then some v else none)
section
variable {prog : Program} {w : World} {A : Around} {E : Value → Shared → Prop} {R : Result → Shared → Prop} {s : Shared} {K : Frag} {mg : Str → Option Value} {C fI cc : Addr} {nm qual fld : Str} {st : Stmt}
abbrev iniScope (fld : Str) : Scope := { kind := .function, names := [(Str.ofString "self", .local), (fld, .local), (Str.ofString "__class__", .free), (Str.ofString "super", .globalImplicit)], isGenerator := false, isCoroutine := false, more := [] }
abbrev iniBody (fld : Str) (v1 v2 : Expr) (rest : List Expr) (p1 p2 p3 p4 p5 p6 q1 q2 q3 q4 : Pos) : List Stmt :=
  [.Expr (.Call (.Attribute (.Call (.Name "super" p1) [] [] p2) "__init__" p3) [.JoinedStr (v1 :: v2 :: rest) p4] [] p5) p6, .Assign [.Attribute (.Name "self" q1) fld q2] (.Name fld q3) q4]
/-- a field's name that is none of these -/
structure FldOk (fld : Str) : Prop where
  f1 : (fld == Str.ofString "self") = false
  f2 : (Str.ofString "__class__" == fld) = false
  f3 : (Str.ofString "super" == fld) = false
  f4 : (Str.ofString "self" == fld) = false
  f5 : (fld == Str.ofString "__debug__") = false
section
variable {fld : Str}
theorem lk_self : (iniScope fld).names.lookup (Str.ofString "self") = some .local := by
  rw [List.lookup_cons, beq_self_eq_true]
theorem lk_fld (O : FldOk fld) : (iniScope fld).names.lookup fld = some .local := by
  rw [List.lookup_cons, O.f1, List.lookup_cons, beq_self_eq_true]
theorem lk_cls (O : FldOk fld) : (iniScope fld).names.lookup (Str.ofString "__class__") = some .free := by
  rw [List.lookup_cons, show (Str.ofString "__class__" == Str.ofString "self") = false by decide +kernel, List.lookup_cons, O.f2, List.lookup_cons, beq_self_eq_true]
theorem lk_sup (O : FldOk fld) : (iniScope fld).names.lookup (Str.ofString "super") = some .globalImplicit := by
  rw [List.lookup_cons, show (Str.ofString "super" == Str.ofString "self") = false by decide +kernel, List.lookup_cons, O.f3, List.lookup_cons, show (Str.ofString "super" == Str.ofString "__class__") = false by decide +kernel, List.lookup_cons, beq_self_eq_true]
end
theorem err_init {s1 p1 p2 p3 p4 p5 p6 q1 q2 q3 q4 : Pos} {v1 v2 : Expr} {rest : List Expr} (EC : ErrC K mg nm C) {dV : Value} (IC : IniC prog K mg C fI cc qual fld st dV) (O : FldOk fld)
    (hbd : L2.defBody st = iniBody fld v1 v2 rest p1 p2 p3 p4 p5 p6 q1 q2 q3 q4)
    (hpar : ((L2.defArgs st).posonlyargs ++ (L2.defArgs st).args).head? = some { arg := "self", annotation := none, pos := s1 })
    (hps : ∀ e ∈ v1 :: v2 :: rest, FP fld e) (hlen : rest.length ≤ 20) (hpos : (p3.endLine == p5.line) = true) (hsc : L2.defScope st = iniScope fld)
    {x t0 : Addr} {v : Value} (MO : L2.Mod K mg s.heap) (hx : s.heap.get? x = some (excO C t0)) (hnx : K.lookup x = none) (hroom : A.depth < recursionLimit) (fv : FmtOk v)
    (hbind : ∀ kV doc pm an cda ct, BindsTo s (ksFn "__init__" qual (L2.defArgs st) (L2.defBody st) (L2.defScope st) dV kV doc pm an (.ref cda) ct cc) ⟨[.ref x, v], []⟩ [(Str.ofString "self", .ref x), (fld, v)])
    (hq : ∀ h' tk dx, IniEnd s.heap h' x C dx fld v → R (.ok (.ret .none)) { s with heap := h', toks := tk }) :
    codeAny (model prog w) A (.call (.ref fI) ⟨[.ref x, v], []⟩) R s := by
  obtain ⟨oc, od, kV, doc, pm, an, cda, ct, osl, ho, hcd, ccl, cdd, vs, ccs, file, tf, hcda, hvs, hfile⟩ := IC.fn
  have X := MO.kin
  have hb := hbind kV doc pm an cda ct
  rw [hbd, hsc] at ho hb
  obtain ⟨cl, cld, csl, hcell⟩ := IC.cell
  obtain ⟨mb, hmb, hmb2⟩ := MO.blt
  obtain ⟨nm', N', qn, bs, bm, hdct, sn, sub, ab, col, dd, k0, k1, k2, k3, k5, hC, hT⟩ := excInit_of X EC.ei
  obtain ⟨hp, g, d, t, os⟩ := s
  refine ks_codeAny_call_defAt (fd := ksFn "__init__" qual (L2.defArgs st) (iniBody fld v1 v2 rest p1 p2 p3 p4 p5 p6 q1 q2 q3 q4) (iniScope fld) dV kV doc pm an (.ref cda) ct cc) (body := iniBody fld v1 v2 rest p1 p2 p3 p4 p5 p6 q1 q2 q3 q4) (binds := [(Str.ofString "self", .ref x), (fld, v)])
    hroom (X _ _ ho) rfl MO.nolimit (codeRec_of X hcd) rfl hb ?_ ?_ (fun h₁ hns k => ?_)
  · intro y hy z
    have hy' : y ∈ (iniScope fld).names := hy
    simp only [List.mem_cons, List.not_mem_nil, or_false] at hy'
    rcases hy' with rfl | rfl | rfl | rfl <;> cases z
  · intro y hy
    simp only [List.mem_cons, List.not_mem_nil, or_false] at hy
    rcases hy with rfl | rfl
    · exact lk_self
    · exact lk_fld O
  · have X₁ : K.In h₁ := X.keeps k
    have hx₁ := k _ _ hx
    have hC₁ := k _ _ hC
    have mS : (fun y => [(Str.ofString "self", Value.ref x), (fld, v)].reverse.lookup y) (Str.ofString "self") = some (.ref x) := by
      show List.lookup (Str.ofString "self") [(fld, v), (Str.ofString "self", Value.ref x)] = _
      rw [List.lookup_cons, O.f4, List.lookup_cons, beq_self_eq_true]
    have mF : (fun y => [(Str.ofString "self", Value.ref x), (fld, v)].reverse.lookup y) fld = some v := by
      show List.lookup fld [(fld, v), (Str.ofString "self", Value.ref x)] = _
      rw [List.lookup_cons, beq_self_eq_true]
    refine ks_wpAt_execs_cons (ks_wpAt_Expr_any (ks_wpAt_MethodCall (pl := (do return (← importBound (.Call (.Name "super" p1) [] [] p2) (ksEnv qual (iniScope fld) hp.objs.size fI (.ref cda) cc)).getD true)) ?_ ?_))
    rotate_left
    · rw [arm_eval_Call]
      unfold methodCall
      have e2 : ∀ env : Env, methodCallPos (methodCallForm ([Expr.JoinedStr (v1 :: v2 :: rest) p4].length + ([] : List Keyword).length) (backTo p5 (starEach [Expr.JoinedStr (v1 :: v2 :: rest) p4] env)) (backToKw p5 (keywordEach [] env))) (.Call (.Name "super" p1) [] [] p2) env p3 p5 = pure p5 := fun env => by
        show (if (!true || p3.endLine == p5.line) = true then pure p5 else _) = _
        rw [hpos]
        rfl
      rw [e2]
      rfl
    refine ks_wpAt_super_base (f := fI) (cc := cda) (lk_sup O) (lk_cls O) (by decide +kernel) rfl (X₁ _ _ ho) rfl hpar rfl (X₁ _ _ hcda) rfl hvs hfile IC.top ?_
    refine ks_loadName_global rfl (lk_sup O) (loadGlobal_builtin (MO.glob.keeps k) IC.msup (hmb.keeps k) ((hmb2 "super" (by decide)).trans (show bootBuiltins "super" = some (.type "super") by decide +kernel)) ⟨rfl, ?_⟩)
    refine wpAny_loadName_free rfl (lk_cls O) rfl ⟨_, X₁ _ _ hcell, rfl⟩ ?_
    refine wpAny_loadName_local rfl lk_self hns mS ?_
    refine ks_wpAny_isType_cls hC₁ rfl ⟨rfl, ?_⟩
    refine ks_wpAny_call_super hC₁ rfl hx₁ rfl (fun c z => by cases z) (looks_mroIn X₁ IC.slf) (fun h₂ hso k₂ => ?_)
    have X₂ : K.In h₂ := X₁.keeps k₂
    have hx₂ := k₂ _ _ hx₁
    have I₂ : W.InstAt h₂ x (excO C t0) C none := ⟨hx₂, rfl, rfl, trivial⟩
    have hsup := IC.sup
    unfold ks_superIn at hsup
    cases hc : clsIn K C with
    | none =>
      rw [hc] at hsup
      cases hsup
    | some cd =>
    rw [hc] at hsup
    refine kxs_getMethod kxs_ArithmeticError hso (looks_opaque X₂ IC.th) (l₀ := cd.mro) (fun A Q E s k q => wpAny_bind ((looks_clsIn X₂ hc) A _ E s k (wpAny_pure q))) rfl X₂ hsup (I₂.type.andThen (looks_subIn X₂ IC.subA)) (ks_ne X₂ I₂ hc) (by decide +kernel) ?_
    have k₃ : ∀ b o, h₂.get? b = some o → (h₂.push (kxs_mw "ArithmeticError.__init__" x)).get? b = some o := fun b o e => Heap.get?_push_of_some _ e
    have hu : (h₂.push (kxs_mw "ArithmeticError.__init__" x)).get? h₂.objs.size = some (kxs_mw "ArithmeticError.__init__" x) := Heap.get?_push_at rfl rfl
    have kk : ∀ b o, hp.get? b = some o → (h₂.push (kxs_mw "ArithmeticError.__init__" x)).get? b = some o := fun b o e => k₃ _ _ (k₂ _ _ (k _ _ e))
    have hns₃ : (h₂.push (kxs_mw "ArithmeticError.__init__" x)).Ns hp.objs.size (fun y => [(Str.ofString "self", Value.ref x), (fld, v)].reverse.lookup y) := by
      obtain ⟨oL, es, ep, hL, r⟩ := hns
      exact ⟨oL, es, ep, k₃ _ _ (k₂ _ _ hL), r⟩
    have hx₃ := k₃ _ _ hx₂
    have hC₃ := kk _ _ hC
    have hsz : h₂.objs.size < (h₂.push (kxs_mw "ArithmeticError.__init__" x)).objs.size := Heap.lt_size hu
    generalize h₂.push (kxs_mw "ArithmeticError.__init__" x) = h₃ at *
    refine kxs_callWith (i := "ArithmeticError.__init__") (x := x) rfl (evalArgs_plain ?_)
    refine Calls.spliced_cons (wpAny_JoinedStr (pos := p4) (joins_ok (env := callEnv (ksFn "__init__" qual (L2.defArgs st) (iniBody fld v1 v2 rest p1 p2 p3 p4 p5 p6 q1 q2 q3 q4) (iniScope fld) dV kV doc pm an (.ref cda) ct cc) hp.objs.size fI) rfl (lk_fld O) O.f5 mF fv _ Str.empty _ _ hps ?_ hns₃ fun out tk ho => ⟨by rw [sizeLine_eq]; omega, ?_⟩))
    · rw [List.length_cons, List.length_cons]
      show 0 + 1000 * (rest.length + 1 + 1) ≤ 100000
      omega
    refine Calls.spliced_nil ⟨hu, ?_⟩
    -- the library's own rules, over the heap of the call with the error itself left out
    have xL : x ≠ hp.objs.size := Nat.ne_of_lt (Heap.lt_size hx)
    have nK : ∀ a o, K.lookup a = some o → a ∉ [x] := fun a o e z => by
      rw [List.mem_singleton.mp z, hnx] at e
      cases e
    have X₀ : K.In (hideAll hp [x]) := fun a o e => hideAll_get [x] (X a o e) (nK a o e)
    have F₃ : Fr (hideAll hp [x]) hp.objs.size h₃ (fun y => [(Str.ofString "self", Value.ref x), (fld, v)].reverse.lookup y) :=
      ⟨hns₃, fun b o e => kk b o (of_hideAll [x] e), Nat.le_of_eq (hideAll_size [x] hp)⟩
    have L₂ : hp.objs.size < h₂.objs.size := by
      obtain ⟨oL, es, ep, hL, _⟩ := hns
      exact Heap.lt_size (k₂ _ _ hL)
    have ux : h₂.objs.size ≠ x := Nat.ne_of_gt (Nat.lt_trans (Heap.lt_size hx) L₂)
    have uo : (hideAll hp [x]).get? h₂.objs.size = none := by
      cases e : (hideAll hp [x]).get? h₂.objs.size with
      | none => rfl
      | some o => exact absurd (Nat.lt_trans (Heap.lt_size (of_hideAll [x] e)) L₂) (Nat.lt_irrefl _)
    have N₃ : News (hideAll hp [x]) hp.objs.size h₃ [(h₂.objs.size, kxs_mw "ArithmeticError.__init__" x), (x, excObj C t0 none .none)] := fun p hp' => by
      rcases List.mem_cons.mp hp' with rfl | hp'
      · exact ⟨hu, Nat.ne_of_gt L₂, uo⟩
      · obtain rfl := List.mem_singleton.mp hp'
        exact ⟨hx₃, xL, hideAll_none [x] (List.mem_singleton.mpr rfl)⟩
    refine kxs_call F₃ X₀ N₃ F.excBase_ArithmeticError EC.ei List.mem_cons_self (.tail ux (.head fun p z => nomatch z)) (by show 1 ≤ sizeLine; decide) fun t1 h₄ F₄ N₄ lt₄ => ?_
    have X₄ : K.In h₄ := X₀.keeps F₄.keep
    have hx₄ : h₄.get? x = some (excO C t1) := (N₄ (x, excObj C t1 none .none) (by simp)).1
    have tx : t1 ≠ x := Nat.ne_of_gt (lt₄ (x, excObj C t0 none .none) (by simp))
    refine ks_wpAt_execs_cons (ks_wpAt_Assign_Attr (wpAt_of_wpAny (wpAny_Name (wpAny_loadName_local rfl (lk_fld O) F₄.ns mF ?_) O.f5)))
    refine wpAny_Name (wpAny_loadName_local rfl lk_self F₄.ns mS ?_) (by decide +kernel)
    refine set_plain X₄ (ox := excO C t1) (od := none) ⟨hx₄, rfl, rfl, trivial⟩ EC.sa ?_
    have free : takerIn K C fld = some none := by
      rw [takerIn, IC.noF]
      rfl
    refine osa_exc0 (pre := [(t1, _), (h₂.objs.size, _)]) (post := []) F.store_ArithmeticError F₄ N₄ X₄ EC.eo free EC.hdC (fun p z => ?_) (fun p z => nomatch z) (putName_dict _ _ _ _ _ _) rfl (by show 1 ≤ 1000; decide) fun dx h₅ F₅ N₅ lt₅ => ?_
    · rcases List.mem_cons.mp z with rfl | z
      · exact tx
      · obtain rfl := List.mem_singleton.mp z
        exact ux
    refine wpAt_of_wpAny (wpAny_execs_nil ?_)
    have xd : x < dx := lt₅ (x, excObj C t1 none .none) (by simp)
    have ud : h₂.objs.size < dx := lt₅ (h₂.objs.size, kxs_mw "ArithmeticError.__init__" x) (by simp)
    exact hq h₅ _ dx ⟨fun b o hb e => F₅.keep b o (hideAll_get [x] e fun z => hb (List.mem_singleton.mp z)), ⟨t1, (N₅ (x, excObj C t1 (some dx) .none) (by simp)).1⟩, Nat.le_of_lt (Nat.lt_trans L₂ ud), Nat.ne_of_gt xd, one_key (N₅ _ List.mem_cons_self).1⟩
end
end ErrX
end PySem

namespace PySem
namespace ErrX
open PySem.W PySem.Calls PyProof.Rows PySem.HandSPX
/-- a made error with one field -/
structure Made1 (h h' : Heap) (e C d : Addr) (fld : Str) (v : Value) : Prop where
  keep : ∀ b o, h.get? b = some o → h'.get? b = some o
  new : h.objs.size ≤ e
  obj : ∃ oe vs, h'.get? e = some oe ∧ oe.cls = .ref C ∧ oe.dict = some d ∧ oe.data = .fields vs ∧ vs[1]? = some .none
  dbig : h.objs.size ≤ d
  dne : d ≠ e
  ns : h'.Ns1 d (fun y => if y = fld then some v else none)
/-- its __init__ does as it should -/
structure IniOk (prog : Program) (w : World) (K : Frag) (mg : Str → Option Value) (C fI : Addr) (fld : Str) : Prop where
  iC : findIn K (.ref C) "__init__" = some (some (.ref fI))
  tC : typeIn K (.ref fI) = some (.type "function")
  run : ∀ (A : Around) (R : Result → Shared → Prop) (s : Shared) (x t0 : Addr) (v : Value), L2.Mod K mg s.heap → s.heap.get? x = some (excO C t0) → K.lookup x = none → A.depth < recursionLimit → FmtOk v →
    (∀ h' tk dx, IniEnd s.heap h' x C dx fld v → R (.ok (.ret .none)) { s with heap := h', toks := tk }) → codeAny (model prog w) A (.call (.ref fI) ⟨[.ref x, v], []⟩) R s
section
variable {prog : Program} {w : World} {A : Around} {E : Value → Shared → Prop} {R : Result → Shared → Prop} {s : Shared} {K : Frag} {mg : Str → Option Value} {C fI : Addr} {nm fld : Str}
theorem err_made (EC : ErrC K mg nm C) (IO : IniOk prog w K mg C fI fld) {v : Value} (MO : L2.Mod K mg s.heap) (hroom : A.depth + 1 < recursionLimit) (fv : FmtOk v)
    (hq : ∀ h' tk e d, Made1 s.heap h' e C d fld v → R (.ok (.ret (.ref e))) { s with heap := h', toks := tk }) :
    codeAny (model prog w) A (.call (.ref C) ⟨[v], []⟩) R s := by
  have X := MO.kin
  obtain ⟨nm', N', qn, bs, bm, hdct, sn, sub, ab, col, dd, k0, k1, k2, k3, k5, hC, hT⟩ := excInit_of X EC.ei
  obtain ⟨hp, g, dr, tk, os⟩ := s
  have k : ∀ b o, hp.get? b = some o → ((hp.push (kdv_tup [v])).push (excO C hp.objs.size)).get? b = some o := fun b o e => Heap.get?_push_of_some _ (Heap.get?_push_of_some _ e)
  have hget : ((hp.push (kdv_tup [v])).push (excO C hp.objs.size)).get? (hp.objs.size + 1) = some (excO C hp.objs.size) := by heap_get
  have hnx : K.lookup (hp.objs.size + 1) = none := by
    cases e : K.lookup (hp.objs.size + 1) with
    | none => rfl
    | some o =>
      have z : hp.get? (hp.objs.size + 1) = some o := X _ _ e
      exact absurd (Nat.lt_of_succ_lt (Heap.lt_size z)) (Nat.lt_irrefl _)
  have MO' : L2.Mod K mg ((hp.push (kdv_tup [v])).push (excO C hp.objs.size)) := by
    obtain ⟨mb, h1, h2⟩ := MO.blt
    exact ⟨X.keeps k, MO.glob.keeps k, ⟨mb, h1.keeps k, h2⟩, MO.nolimit.keeps k⟩
  refine call_own F.excBase_ArithmeticError hT hC (looks_findIn X IO.iC) (fun self => bind_fn X self IO.tC) (by show 1 ≤ sizeLine; decide) ?_
  refine IO.run _ _ ⟨(hp.push (kdv_tup [v])).push (excO C hp.objs.size), g, dr, tk, os⟩ _ _ _ MO' hget hnx ?_ fv fun h' tk' dx ⟨k', ⟨t1, hx⟩, dn, dne, hns⟩ => ?_
  · show A.depth + 1 < recursionLimit
    exact hroom
  · have old : ∀ b o, hp.get? b = some o → h'.get? b = some o := fun b o e => k' b o (Nat.ne_of_lt (Nat.lt_succ_of_lt (Heap.lt_size e))) (k b o e)
    have z : hp.objs.size + 1 + 1 ≤ dx := by
      first
        | (simpa only [Heap.size_push] using dn)
        | exact dn
        | (have q := dn; rw [Heap.size_push, Heap.size_push] at q; exact q)
    exact ⟨rfl, hq h' tk' (hp.objs.size + 1) dx ⟨old, Nat.le_succ _, ⟨_, _, hx, rfl, rfl, rfl, rfl⟩, Nat.le_trans (Nat.le_trans (Nat.le_succ _) (Nat.le_succ _)) z, dne, hns⟩⟩
end
end ErrX
end PySem
namespace E1
open PySem PySem.Spec PyProof.Rows L2
open PySem.ErrX (ErrC IniOk FmtOk)
/-- a value that is written as a text of at most a thousand signs -/
def VFmt (v : V) : Prop := (∃ y : Str, v = .str y ∧ y.length ≤ 1000) ∨ ∃ i : Int, v = .int i ∧ i.natAbs.log2 < 1920 ∧ (toString i : String).length ≤ 1000
theorem VFmt.ok {v : V} {u : Value} (h : VFmt v) (r : RelV v u) : FmtOk u := by
  rcases h with ⟨y, rfl, hy⟩ | ⟨i, rfl, hi, hy⟩
  · obtain ⟨t, rfl⟩ := (show ∃ t, u = Value.str y t from r)
    exact .inl ⟨y, t, rfl, hy⟩
  · obtain ⟨t, rfl⟩ := (show ∃ t, u = Value.int i t from r)
    exact .inr ⟨i, t, rfl, hi, hy⟩
theorem relO_one {fld : Str} {v : V} {v' : Value} (r : RelV v v') (f : Str) : RelO (List.lookup f [(fld, v)]) (if f = fld then some v' else none) := by
  by_cases hw : f = fld
  · subst hw
    rw [if_pos rfl]
    have q : List.lookup f [(f, v)] = some v := by simp [List.lookup]
    rw [q]
    exact r
  · rw [if_neg hw]
    have qw : (f == fld) = false := by simpa using hw
    have q2 : List.lookup f [(fld, v)] = none := by simp [List.lookup, qw]
    rw [q2]
    trivial
section
variable {X : Cx} {C fI : Addr} {x fld : Str}
/-- X(e), an error with one field -/
def tMkErr (C : Addr) (fld : Str) (ta : TA) : L2.St → Hp → XK → Prop := fun σ H Q => ta σ H fun vs H1 => ∃ v, vs = [v] ∧ VFmt v ∧ ∀ d, H1 d = none → Q (.ref C) (some d) (upd H1 d (.xd [(fld, v)]))
theorem pmk_err {a : Expr} {ta : TA} {p pos : Pos} {k : Nat} (EC : ErrC X.K X.mg x C) (IO : IniOk X.prog X.w X.K X.mg C fI fld) (hr : Room k X.A) (ha : PA X [a] ta) (hg : Gl X x := by rfl) (hdb : (x == ("__debug__" : Str)) = false := by decide)
    (he : starEach (a :: []) X.env = (false, eval a X.env) :: starEach [] X.env := by rfl) (hpl : (backTo pos (starEach [] X.env)).any (·.1) = false := by rfl) :
    PMk X (.Call (.Name x p) [a] [] pos) (tMkErr C fld ta) := by
  intro pins s σ H Q I h
  refine wpAny_Call_Name_kw (ld_glob I hg EC.gC ?_ hdb)
  refine PySem.W.callWith_K (h₀ := X.base) I.ok.mod.kin EC.kC (thn (ha.run pos pins s σ H _ I h) fun us s1 hh => ?_) he hpl
  obtain ⟨vs, H1, I1, r1, v, ev, fv, q1⟩ := hh
  subst ev
  refine ⟨I1.kIn, ?_⟩
  cases r1 with
  | cons rv rn =>
    rename_i v' us'
    cases rn
    show wpAny _ _ (call (.ref C) [v']) _ _ _
    have MO : Mod X.K X.mg s1.heap := by
      obtain ⟨mb, h1, h2⟩ := I1.mod.blt
      exact ⟨I1.kIn, I1.mod.glob.keeps I1.bk, ⟨mb, h1.keeps I1.bk, h2⟩, I1.nolimit⟩
    obtain ⟨hp, g, dr, tk, os⟩ := s1
    refine wpAny_call (PySem.ErrX.err_made EC IO MO (by have := hr.dp; omega) (fv.ok rv) fun h' tk' e d M => ?_)
    show MkP X pins σ Q (.ref e) ⟨h', g, dr, tk', os⟩
    obtain ⟨oe, fv', hoe, hc, hd, hdat, h1⟩ := M.obj
    have hns := M.ns
    obtain ⟨G', g1, g2⟩ := restrict h' fun b => decide (b ≠ e)
    have gk : ∀ b, b ≠ e → G'.get? b = h'.get? b := fun b hb => g1 b (decide_eq_true hb)
    have ge : G'.get? e = none := g2 e (by simp)
    have old : ∀ b o, hp.get? b = some o → G'.get? b = some o := fun b o q => (gk b (Nat.ne_of_lt (Nat.lt_of_lt_of_le (Heap.lt_size q) M.new))).trans (M.keep b o q)
    have ob : ObjOk X.prog X.w (upd H1 d (.xd [(fld, v)])) G' d (.xd [(fld, v)]) :=
      ⟨_, hns.at (fun o q => (gk d M.dne).trans q), fun f => relO_one rv f⟩
    have J : Inv X pins σ (upd H1 d (.xd [(fld, v)])) ⟨G', g, dr, tk', os⟩ := I1.laid (t' := tk') old M.dbig ob
    refine ⟨e, oe, fv', ⟨G', g, dr, tk', os⟩, _, .ref C, some d, rfl, J, fun b o q => ?_, ge, hoe, ⟨hc, hd⟩, hdat, h1, ?_, rfl, I1.bare, raises_own EC.exC EC.tyC, q1 d (I1.hok.fresh M.dbig)⟩
    · by_cases hb : b = e
      · have q' : G'.get? b = some o := q
        rw [hb, ge] at q'; cases q'
      · exact (gk b hb).symm.trans q
    · rw [upd_ne (Ne.symm M.dne)]
      exact I1.hok.fresh M.new
/-- raise X(e) -/
def tRaiseErr (C : Addr) (fld : Str) (W : WX) (ta : TA) : TS := fun _ σ H => tMkErr C fld ta σ H fun cls d H' => W cls d σ H'
theorem ps_raiseErr {a : Expr} {ta : TA} {W : WX} {p pos pos2 : Pos} {k : Nat} (hc : X.calm = true) (EC : ErrC X.K X.mg x C) (IO : IniOk X.prog X.w X.K X.mg C fI fld) (hr : Room k X.A) (tk : Takes X W) (ha : PA X [a] ta) (hg : Gl X x := by rfl) (hdb : (x == ("__debug__" : Str)) = false := by decide)
    (he : starEach (a :: []) X.env = (false, eval a X.env) :: starEach [] X.env := by rfl) (hpl : (backTo pos (starEach [] X.env)).any (·.1) = false := by rfl) :
    PS X (.Raise (some (.Call (.Name x p) [a] [] pos)) none pos2) (tRaiseErr C fld W ta) := ps_raise hc tk (pmk_err EC IO hr ha hg hdb he hpl)
/-- e.f of a caught error -/
theorem ErrC.xf {K : PySem.W.Frag} {mg : Str → Option Value} (EC : ErrC K mg x C) : XfC K C := ⟨EC.ga, EC.gg, EC.exC, EC.hdC⟩
end
end E1

namespace E1
open PySem PySem.Spec PyProof.Rows L2
open PySem.ErrX (ErrC IniOk FmtOk)
/-- isinstance(e, c), e the error that the suite holds, its class an own one -/
def rIsX (K : PySem.W.Frag) (a : Addr) (cls : Value) (d : Option Addr) : List V → Hp → VK → Prop := fun xs H Q => ∃ (D : Addr) (c : V) (cv : Value) (b : Bool), cls = .ref D ∧ ExcC K D ∧ xs = [.ref a, c] ∧ (∀ u, RelV c u → u = cv) ∧
  (∀ dd, d = some dd → ∃ fs, H dd = some (.xd fs)) ∧ PySem.W.kitOne K (.ref D) cv = some b ∧ Q (.bl b) H
theorem call_isX {X : Cx} {a : Addr} {cls : Value} {d : Option Addr} {oe : Obj} {pn : List (Addr × Obj)} (hz : Zc cls d oe) (hf : ∃ vs, oe.data = .fields vs) : CallR (X.suite a ((a, oe) :: pn)) (.builtin "isinstance") (rIsX X.K a cls d) := by
  intro pins s σ H xs us Q I r ⟨D, c, cv, b, hcls, C, hxs, only, hdd, yes, q⟩
  subst hcls hxs
  match d, hz, hdd, us, r with
  | none, hz, _, us, r => exact call_isE C hz hf pins s σ H _ us Q I r ⟨c, cv, b, rfl, only, yes, q⟩
  | some dd, ⟨kind, own⟩, hdd, [x, u], .cons hx (.cons hu .nil) =>
    cases hx
    cases only u hu
    obtain ⟨fs, tracked⟩ := hdd dd rfl
    obtain ⟨m, space, _⟩ := show ObjOk X.prog X.w H s.heap dd (.xd fs) from I.hok dd _ tracked
    obtain ⟨dict, lies, _⟩ := lookIn_ns space
    obtain ⟨parts, hparts⟩ := hf
    have held := (I.pin (a, oe) (by simp)).1
    have inst : PySem.W.InstAt s.heap a oe D (some dict) := by
      refine ⟨held, kind, ?_, ?_⟩
      · obtain ⟨_, _, dat, _⟩ := oe
        dsimp only at hparts ⊢
        rw [hparts]
        rfl
      · simpa [own] using lies
    have known : (PySem.W.clsIn X.K D).isSome = true := Option.isSome_iff_exists.mpr ((PySem.W.any_some C.hd).imp fun _ z => z.1)
    exact PySem.W.kia_one (PySem.W.kitx_exc known C.hg C.hk C.hs C.ha C.hn C.ht C.hm) I.kIn inst yes (fun z => nomatch z) fun tk => ⟨.bl b, H, I.kept (t' := tk) fun _ _ z => z, rfl, q⟩
/-! ### calls of defs that may raise -/
def CalX (P : Program) (w : World) (K : PySem.W.Frag) (mg : Str → Option Value) (base : Heap) (k : Nat) (x : Str) (ps : List Str) (dvs : List V) (sp : Sp) : Prop :=
  ∃ (f : Addr) (fd : FuncData) (ds : List Value), mg x = some (.ref f) ∧ PySem.W.keepIn K (.ref f) = true ∧ Vals dvs ds ∧ Binds K fd ps ds ∧ FnOk P w K mg base (L2.CX P w) k f fd ps sp
theorem pe_calx {X : Cx} {k j : Nat} {x : Str} {ps : List Str} {dvs : List V} {sp : Sp} {e : Expr} {es : List Expr} {t : TA} {p pos : Pos} (c : CalX X.prog X.w X.K X.mg X.base k x ps dvs sp) (hr : Room j X.A) (ha : PA X (e :: es) t) (hle : k ≤ j := by decide) (hg : Gl X x := by rfl)
    (hdb : (x == ("__debug__" : Str)) = false := by decide) (he : starEach (e :: es) X.env = (false, eval e X.env) :: starEach es X.env := by rfl) (hpl : (backTo pos (starEach es X.env)).any (·.1) = false := by rfl) :
    PE X (.Call (.Name x p) (e :: es) [] pos) (tCall sp dvs E0 t) := by
  obtain ⟨f, fd, ds, h1, h2, hd, h3, h4⟩ := c
  exact pe_call h4 (hr.mono hle) hg h1 h2 h3 hd passL ha hdb he hpl
def CalXK (P : Program) (w : World) (K : PySem.W.Frag) (mg : Str → Option Value) (base : Heap) (k : Nat) (x : Str) (ps : List Str) (n : Nat) (ks : List Str) (gV : List V → List V → List V) (sp : Sp) : Prop :=
  ∃ (f : Addr) (fd : FuncData) (g : List Value → List Value → List Value), mg x = some (.ref f) ∧ PySem.W.keepIn K (.ref f) = true ∧ KBn K fd ps n ks g gV ∧ FnOk P w K mg base (L2.CX P w) k f fd ps sp
theorem pe_calkx0 {X : Cx} {k j : Nat} {x : Str} {ps ks : List Str} {gV : List V → List V → List V} {sp : Sp} {kws : List Keyword} {tk : TA} {p pos : Pos} (c : CalXK X.prog X.w X.K X.mg X.base k x ps 0 ks gV sp) (hr : Room j X.A)
    (hkw : PK X kws tk) (hle : k ≤ j := by decide) (hg : Gl X x := by rfl) (hall : (backToKw pos (keywordEach kws X.env)).all (·.1.isSome) = true := by rfl) (hks : (backToKw pos (keywordEach kws X.env)).filterMap (·.1) = ks := by rfl)
    (hdb : (x == ("__debug__" : Str)) = false := by decide)
    (hpl : ((backTo pos (starEach [] X.env)).any (·.1) || (backToKw pos (keywordEach kws X.env)).any (·.1.isNone)) = false := by rfl) :
    PE X (.Call (.Name x p) [] kws pos) (tCallN 0 ks.length sp gV E0 tNil tk) := by
  obtain ⟨f, fd, g, h1, h2, h3, h4⟩ := c
  refine ⟨fun pins s σ H Q I h => ?_⟩
  refine wpAny_Call_Name_kw (ld_glob I hg h1 ?_ hdb)
  refine PySem.W.callWith_KW0 (h₀ := X.base) I.ok.mod.kin h2 hall (thn (hkw.run pos pins s σ H _ I h) fun ws s2 ⟨zs, H2, I2, rz, l1, l2, q2⟩ => ⟨I2.kIn, ?_⟩) hpl
  rw [hks]
  exact run_fnN (vs := []) (us := []) h4 (hr.mono hle) h3 passL I2 .nil rz l1 l2 q2
/-- a call whose error a try around it waits for -/
theorem pe_calxS {X : Cx} {k j : Nat} {x : Str} {ps : List Str} {sp : Sp} {e : Expr} {es : List Expr} {t : TA} {p pos : Pos} {W : WX} (c : CalX X.prog X.w X.K X.mg X.base k x ps [] sp) (hr : Room j X.A) (tk : Takes X W) (ha : PA X (e :: es) t) (hle : k ≤ j := by decide) (hg : Gl X x := by rfl)
    (hdb : (x == ("__debug__" : Str)) = false := by decide) (he : starEach (e :: es) X.env = (false, eval e X.env) :: starEach es X.env := by rfl) (hpl : (backTo pos (starEach es X.env)).any (·.1) = false := by rfl) :
    PE X (.Call (.Name x p) (e :: es) [] pos) (tCallS sp (WE W) t) := by
  obtain ⟨f, fd, ds, h1, h2, hd, h3, h4⟩ := c
  cases hd
  exact pe_callS h4 (hr.mono hle) hg h1 h2 h3 (fun σ => passAt tk σ) ha hdb he hpl
end E1

namespace PySem
namespace ErrX
open PySem.W PySem.Calls PyProof.Rows PySem.HandSPX
/-- a value that is written as a text, None too -/
def FmtN (v : Value) : Prop := FmtOk v ∨ v = .none
inductive FP2 : Expr → Prop
  | c {x : Str} {j : Nat} {pos : Pos} (h : x.length ≤ 1000) : FP2 (.Constant (.str x) j pos)
  | p {p q : Pos} : FP2 (.FormattedValue (.Name "part" p) (-1) none q)
  | a {p q : Pos} : FP2 (.FormattedValue (.Name "at" p) (-1) none q)
abbrev kP : Str := Str.ofString "part"
abbrev kA : Str := Str.ofString "at"
section
variable {prog : Program} {w : World} {A : Around} {E : Value → Shared → Prop} {R : Result → Shared → Prop} {s : Shared} {K : Frag} {mg mb : Str → Option Value} {C fI cc : Addr} {qual : Str} {st : Stmt}
theorem joins2 {env : Env} {m : Str → Option Value} {v u : Value} (hk : env.scope.kind = .function) (hl : env.kindOf kP = some .local) (hl2 : env.kindOf kA = some .local) (hv : m kP = some v) (hu : m kA = some u) (fv : FmtN v) (fu : FmtN u) :
    ∀ (es : List Expr) (acc : Str) (s : Shared) (Q : Str → Shared → Prop), (∀ e ∈ es, FP2 e) → acc.length + 1000 * es.length ≤ 100000 → s.heap.Ns env.locals m →
      (∀ out tk, out.length ≤ 100000 → Q out { s with toks := tk }) → Joins (model prog w) A E (evalEach es env) acc Q s
  | [], acc, s, Q, _, hz, _, hq => by
    have e0 : evalEach [] env = [] := by first | rfl | simp [evalEach]
    rw [e0]
    have := hq acc s.toks (by simpa using hz)
    exact this
  | e :: es, acc, s, Q, hp, hz, hn, hq => by
    have e0 : evalEach (e :: es) env = eval e env :: evalEach es env := by first | rfl | simp [evalEach]
    rw [e0]
    have hp' : ∀ e ∈ es, FP2 e := fun e h => hp e (List.mem_cons_of_mem _ h)
    rw [List.length_cons] at hz
    have step : ∀ (y : Str) (t : Tok) (tk : Nat), y.length ≤ 1000 → ∃ y' t', Value.str y t = .str y' t' ∧ (acc ++ y').length ≤ sizeLine ∧ Joins (model prog w) A E (evalEach es env) (acc ++ y') Q { s with toks := tk } := fun y t tk hy => by
      have hlen : (acc ++ y).length = acc.length + y.length := by first | exact Str.length_append _ _ | simp
      refine ⟨y, t, rfl, ?_, ?_⟩
      · rw [hlen, sizeLine_eq]
        omega
      · exact joins2 hk hl hl2 hv hu fv fu es (acc ++ y) { s with toks := tk } Q hp' (by rw [hlen]; omega) hn fun out tk' ho => hq out tk' ho
    have one : ∀ v : Value, FmtN v → wpAny (model prog w) A (formatField v Str.empty) (fun r s' => ∃ y' t', r = .str y' t' ∧ (acc ++ y').length ≤ sizeLine ∧ Joins (model prog w) A E (evalEach es env) (acc ++ y') Q s') E s := fun v fv => by
      rcases fv with (⟨y, t, rfl, hy⟩ | ⟨i, t, rfl, hi, hy⟩) | rfl
      · exact wpAny_formatField_str (step y t s.toks hy) (step y _ _ hy) (by rw [sizeLine_eq]; omega)
      · exact wpAny_formatField_int hi (step _ _ _ (by rw [ofString_length]; exact hy))
      · exact wpAny_formatField_none (step _ _ _ (by decide +kernel))
    show wpAny _ _ (eval e env) _ _ _
    cases hp e List.mem_cons_self with
    | c h => exact Calls.Constant_str (step _ _ _ h)
    | p => exact wpAny_FormattedValue_plain (wpAny_Name (wpAny_loadName_local hk hl hn hv (one v fv)) (by decide +kernel))
    | a => exact wpAny_FormattedValue_plain (wpAny_Name (wpAny_loadName_local hk hl2 hn hu (one u fu)) (by decide +kernel))
theorem two_keys {h : Heap} {dx : Addr} {h1 h2 : Int} {t1 t2 : Tok} {v u : Value} (e : h.get? dx = some (dictOf [⟨h1, .str kP t1, v⟩, ⟨h2, .str kA t2, u⟩] 2)) : h.Ns1 dx (fun y => if y = kP then some v else if y = kA then some u else none) := by
  have ne : kP ≠ kA := by decide +kernel
  refine ⟨_, _, _, e, rfl, fun d hd => ?_, ?_, fun y => ?_⟩
  · have hd2 : d = ⟨h1, .str kP t1, v⟩ ∨ d = ⟨h2, .str kA t2, u⟩ := by simpa using hd
    rcases hd2 with rfl | rfl
    · exact ⟨kP, t1, rfl⟩
    · exact ⟨kA, t2, rfl⟩
  · refine List.pairwise_cons.mpr ⟨fun x hx => ?_, List.pairwise_singleton _ _⟩
    obtain rfl := List.mem_singleton.mp hx
    intro n a b
    replace a : (kP == n) = true := a
    replace b : (kA == n) = true := b
    exact ne ((eq_of_beq a).trans (eq_of_beq b).symm)
  · by_cases z : y = kP
    · subst z
      simp [nsFind, findBy, Value.isStr]
    · by_cases z2 : y = kA
      · subst z2
        simp [nsFind, findBy, Value.isStr, ne, Ne.symm ne]
      · simp [nsFind, findBy, Value.isStr, z, z2, Ne.symm z, Ne.symm z2]
structure IniEnd2 (h h' : Heap) (x C dx : Addr) (v u : Value) : Prop where
  keep : ∀ b o, b ≠ x → h.get? b = some o → h'.get? b = some o
  obj : ∃ t1 : Addr, h'.get? x = some { cls := .ref C, dict := some dx, data := .fields #[.ref t1, .none, .none, .none, .bool false, .none] }
  dbig : h.objs.size ≤ dx
  dne : dx ≠ x
  ns : h'.Ns1 dx (fun y => if y = kP then some v else if y = kA then some u else none)
abbrev iniScope2 : Scope := { kind := .function, names := [(Str.ofString "self", .local), (kP, .local), (kA, .local), (Str.ofString "__class__", .free), (Str.ofString "super", .globalImplicit)], isGenerator := false, isCoroutine := false, more := [] }
abbrev iniBody2 (v1 v2 : Expr) (rest : List Expr) (p1 p2 p3 p4 p5 p6 q1 q2 q3 q4 r1 r2 r3 r4 : Pos) : List Stmt :=
  [.Expr (.Call (.Attribute (.Call (.Name "super" p1) [] [] p2) "__init__" p3) [.JoinedStr (v1 :: v2 :: rest) p4] [] p5) p6, .Assign [.Attribute (.Name "self" q1) kP q2] (.Name kP q3) q4, .Assign [.Attribute (.Name "self" r1) kA r2] (.Name kA r3) r4]
theorem l2_self : iniScope2.names.lookup (Str.ofString "self") = some .local := by decide +kernel
theorem l2_p : iniScope2.names.lookup kP = some .local := by decide +kernel
theorem l2_a : iniScope2.names.lookup kA = some .local := by decide +kernel
theorem l2_cls : iniScope2.names.lookup (Str.ofString "__class__") = some .free := by decide +kernel
theorem l2_sup : iniScope2.names.lookup (Str.ofString "super") = some .globalImplicit := by decide +kernel
theorem err_init2 {nm : Str} {s1 p1 p2 p3 p4 p5 p6 q1 q2 q3 q4 r1 r2 r3 r4 : Pos} {v1 v2 : Expr} {rest : List Expr} (EC : ErrC K mg nm C) {dV : Value} (IC : IniC prog K mg C fI cc qual kP st dV) (noA : findIn K (.ref C) kA = some none)
    (hbd : L2.defBody st = iniBody2 v1 v2 rest p1 p2 p3 p4 p5 p6 q1 q2 q3 q4 r1 r2 r3 r4)
    (hpar : ((L2.defArgs st).posonlyargs ++ (L2.defArgs st).args).head? = some { arg := "self", annotation := none, pos := s1 })
    (hps : ∀ e ∈ v1 :: v2 :: rest, FP2 e) (hlen : rest.length ≤ 20) (hpos : (p3.endLine == p5.line) = true) (hsc : L2.defScope st = iniScope2)
    {x t0 : Addr} {v u : Value} (MO : L2.Mod K mg s.heap) (hx : s.heap.get? x = some (excO C t0)) (hnx : K.lookup x = none) (hroom : A.depth < recursionLimit) (fv : FmtN v) (fu : FmtN u)
    (hbind : ∀ kV doc pm an cda ct, BindsTo s (ksFn "__init__" qual (L2.defArgs st) (L2.defBody st) (L2.defScope st) dV kV doc pm an (.ref cda) ct cc) ⟨[.ref x, v, u], []⟩ [(Str.ofString "self", .ref x), (kP, v), (kA, u)])
    (hq : ∀ h' tk dx, IniEnd2 s.heap h' x C dx v u → R (.ok (.ret .none)) { s with heap := h', toks := tk }) :
    codeAny (model prog w) A (.call (.ref fI) ⟨[.ref x, v, u], []⟩) R s := by
  obtain ⟨oc, od, kV, doc, pm, an, cda, ct, osl, ho, hcd, ccl, cdd, vs, ccs, file, tf, hcda, hvs, hfile⟩ := IC.fn
  have X := MO.kin
  have hb := hbind kV doc pm an cda ct
  rw [hbd, hsc] at ho hb
  obtain ⟨cl, cld, csl, hcell⟩ := IC.cell
  obtain ⟨mb, hmb, hmb2⟩ := MO.blt
  obtain ⟨nm', N', qn, bs, bm, hdct, sn, sub, ab, col, dd, k0, k1, k2, k3, k5, hC, hT⟩ := excInit_of X EC.ei
  obtain ⟨hp, g, d, t, os⟩ := s
  refine ks_codeAny_call_defAt (fd := ksFn "__init__" qual (L2.defArgs st) (iniBody2 v1 v2 rest p1 p2 p3 p4 p5 p6 q1 q2 q3 q4 r1 r2 r3 r4) (iniScope2) dV kV doc pm an (.ref cda) ct cc) (body := iniBody2 v1 v2 rest p1 p2 p3 p4 p5 p6 q1 q2 q3 q4 r1 r2 r3 r4) (binds := [(Str.ofString "self", .ref x), (kP, v), (kA, u)])
    hroom (X _ _ ho) rfl MO.nolimit (codeRec_of X hcd) rfl hb ?_ ?_ (fun h₁ hns k => ?_)
  · intro y hy z
    have hy' : y ∈ (iniScope2).names := hy
    simp only [List.mem_cons, List.not_mem_nil, or_false] at hy'
    rcases hy' with rfl | rfl | rfl | rfl | rfl <;> cases z
  · intro y hy
    simp only [List.mem_cons, List.not_mem_nil, or_false] at hy
    rcases hy with rfl | rfl | rfl
    · exact l2_self
    · exact l2_p
    · exact l2_a
  · have X₁ : K.In h₁ := X.keeps k
    have hx₁ := k _ _ hx
    have hC₁ := k _ _ hC
    have mS : (fun y => [(Str.ofString "self", Value.ref x), (kP, v), (kA, u)].reverse.lookup y) (Str.ofString "self") = some (.ref x) := by
      show List.lookup (Str.ofString "self") [(kA, u), (kP, v), (Str.ofString "self", Value.ref x)] = _
      rw [List.lookup_cons, show (Str.ofString "self" == kA) = false by decide +kernel, List.lookup_cons, show (Str.ofString "self" == kP) = false by decide +kernel, List.lookup_cons, beq_self_eq_true]
    have mF : (fun y => [(Str.ofString "self", Value.ref x), (kP, v), (kA, u)].reverse.lookup y) kP = some v := by
      show List.lookup kP [(kA, u), (kP, v), (Str.ofString "self", Value.ref x)] = _
      rw [List.lookup_cons, show (kP == kA) = false by decide +kernel, List.lookup_cons, beq_self_eq_true]
    have mA : (fun y => [(Str.ofString "self", Value.ref x), (kP, v), (kA, u)].reverse.lookup y) kA = some u := by
      show List.lookup kA [(kA, u), (kP, v), (Str.ofString "self", Value.ref x)] = _
      rw [List.lookup_cons, beq_self_eq_true]
    refine ks_wpAt_execs_cons (ks_wpAt_Expr_any (ks_wpAt_MethodCall (pl := (do return (← importBound (.Call (.Name "super" p1) [] [] p2) (ksEnv qual (iniScope2) hp.objs.size fI (.ref cda) cc)).getD true)) ?_ ?_))
    rotate_left
    · rw [arm_eval_Call]
      unfold methodCall
      have e2 : ∀ env : Env, methodCallPos (methodCallForm ([Expr.JoinedStr (v1 :: v2 :: rest) p4].length + ([] : List Keyword).length) (backTo p5 (starEach [Expr.JoinedStr (v1 :: v2 :: rest) p4] env)) (backToKw p5 (keywordEach [] env))) (.Call (.Name "super" p1) [] [] p2) env p3 p5 = pure p5 := fun env => by
        show (if (!true || p3.endLine == p5.line) = true then pure p5 else _) = _
        rw [hpos]
        rfl
      rw [e2]
      rfl
    refine ks_wpAt_super_base (f := fI) (cc := cda) (l2_sup) (l2_cls) (by decide +kernel) rfl (X₁ _ _ ho) rfl hpar rfl (X₁ _ _ hcda) rfl hvs hfile IC.top ?_
    refine ks_loadName_global rfl (l2_sup) (loadGlobal_builtin (MO.glob.keeps k) IC.msup (hmb.keeps k) ((hmb2 "super" (by decide)).trans (show bootBuiltins "super" = some (.type "super") by decide +kernel)) ⟨rfl, ?_⟩)
    refine wpAny_loadName_free rfl (l2_cls) rfl ⟨_, X₁ _ _ hcell, rfl⟩ ?_
    refine wpAny_loadName_local rfl l2_self hns mS ?_
    refine ks_wpAny_isType_cls hC₁ rfl ⟨rfl, ?_⟩
    refine ks_wpAny_call_super hC₁ rfl hx₁ rfl (fun c z => by cases z) (looks_mroIn X₁ IC.slf) (fun h₂ hso k₂ => ?_)
    have X₂ : K.In h₂ := X₁.keeps k₂
    have hx₂ := k₂ _ _ hx₁
    have I₂ : W.InstAt h₂ x (excO C t0) C none := ⟨hx₂, rfl, rfl, trivial⟩
    have hsup := IC.sup
    unfold ks_superIn at hsup
    cases hc : clsIn K C with
    | none =>
      rw [hc] at hsup
      cases hsup
    | some cd =>
    rw [hc] at hsup
    refine kxs_getMethod kxs_ArithmeticError hso (looks_opaque X₂ IC.th) (l₀ := cd.mro) (fun A Q E s k q => wpAny_bind ((looks_clsIn X₂ hc) A _ E s k (wpAny_pure q))) rfl X₂ hsup (I₂.type.andThen (looks_subIn X₂ IC.subA)) (ks_ne X₂ I₂ hc) (by decide +kernel) ?_
    have k₃ : ∀ b o, h₂.get? b = some o → (h₂.push (kxs_mw "ArithmeticError.__init__" x)).get? b = some o := fun b o e => Heap.get?_push_of_some _ e
    have hu : (h₂.push (kxs_mw "ArithmeticError.__init__" x)).get? h₂.objs.size = some (kxs_mw "ArithmeticError.__init__" x) := Heap.get?_push_at rfl rfl
    have kk : ∀ b o, hp.get? b = some o → (h₂.push (kxs_mw "ArithmeticError.__init__" x)).get? b = some o := fun b o e => k₃ _ _ (k₂ _ _ (k _ _ e))
    have hns₃ : (h₂.push (kxs_mw "ArithmeticError.__init__" x)).Ns hp.objs.size (fun y => [(Str.ofString "self", Value.ref x), (kP, v), (kA, u)].reverse.lookup y) := by
      obtain ⟨oL, es, ep, hL, r⟩ := hns
      exact ⟨oL, es, ep, k₃ _ _ (k₂ _ _ hL), r⟩
    have hx₃ := k₃ _ _ hx₂
    have hC₃ := kk _ _ hC
    have hsz : h₂.objs.size < (h₂.push (kxs_mw "ArithmeticError.__init__" x)).objs.size := Heap.lt_size hu
    generalize h₂.push (kxs_mw "ArithmeticError.__init__" x) = h₃ at *
    refine kxs_callWith (i := "ArithmeticError.__init__") (x := x) rfl (evalArgs_plain ?_)
    refine Calls.spliced_cons (wpAny_JoinedStr (pos := p4) (joins2 (env := callEnv (ksFn "__init__" qual (L2.defArgs st) (iniBody2 v1 v2 rest p1 p2 p3 p4 p5 p6 q1 q2 q3 q4 r1 r2 r3 r4) (iniScope2) dV kV doc pm an (.ref cda) ct cc) hp.objs.size fI) rfl l2_p l2_a mF mA fv fu _ Str.empty _ _ hps ?_ hns₃ fun out tk ho => ⟨by rw [sizeLine_eq]; omega, ?_⟩))
    · rw [List.length_cons, List.length_cons]
      show 0 + 1000 * (rest.length + 1 + 1) ≤ 100000
      omega
    refine Calls.spliced_nil ⟨hu, ?_⟩
    -- the library's own rules, over the heap of the call with the error itself left out
    have xL : x ≠ hp.objs.size := Nat.ne_of_lt (Heap.lt_size hx)
    have nK : ∀ a o, K.lookup a = some o → a ∉ [x] := fun a o e z => by
      rw [List.mem_singleton.mp z, hnx] at e
      cases e
    have X₀ : K.In (hideAll hp [x]) := fun a o e => hideAll_get [x] (X a o e) (nK a o e)
    have F₃ : Fr (hideAll hp [x]) hp.objs.size h₃ (fun y => [(Str.ofString "self", Value.ref x), (kP, v), (kA, u)].reverse.lookup y) :=
      ⟨hns₃, fun b o e => kk b o (of_hideAll [x] e), Nat.le_of_eq (hideAll_size [x] hp)⟩
    have L₂ : hp.objs.size < h₂.objs.size := by
      obtain ⟨oL, es, ep, hL, _⟩ := hns
      exact Heap.lt_size (k₂ _ _ hL)
    have ux : h₂.objs.size ≠ x := Nat.ne_of_gt (Nat.lt_trans (Heap.lt_size hx) L₂)
    have uo : (hideAll hp [x]).get? h₂.objs.size = none := by
      cases e : (hideAll hp [x]).get? h₂.objs.size with
      | none => rfl
      | some o => exact absurd (Nat.lt_trans (Heap.lt_size (of_hideAll [x] e)) L₂) (Nat.lt_irrefl _)
    have N₃ : News (hideAll hp [x]) hp.objs.size h₃ [(h₂.objs.size, kxs_mw "ArithmeticError.__init__" x), (x, excObj C t0 none .none)] := fun p hp' => by
      rcases List.mem_cons.mp hp' with rfl | hp'
      · exact ⟨hu, Nat.ne_of_gt L₂, uo⟩
      · obtain rfl := List.mem_singleton.mp hp'
        exact ⟨hx₃, xL, hideAll_none [x] (List.mem_singleton.mpr rfl)⟩
    refine kxs_call F₃ X₀ N₃ F.excBase_ArithmeticError EC.ei List.mem_cons_self (.tail ux (.head fun p z => nomatch z)) (by show 1 ≤ sizeLine; decide) fun t1 h₄ F₄ N₄ lt₄ => ?_
    have X₄ : K.In h₄ := X₀.keeps F₄.keep
    have hx₄ : h₄.get? x = some (excO C t1) := (N₄ (x, excObj C t1 none .none) (by simp)).1
    have tx : t1 ≠ x := Nat.ne_of_gt (lt₄ (x, excObj C t0 none .none) (by simp))
    refine ks_wpAt_execs_cons (ks_wpAt_Assign_Attr (wpAt_of_wpAny (wpAny_Name (wpAny_loadName_local rfl l2_p F₄.ns mF ?_) (by decide +kernel))))
    refine wpAny_Name (wpAny_loadName_local rfl l2_self F₄.ns mS ?_) (by decide +kernel)
    refine set_plain X₄ (ox := excO C t1) (od := none) ⟨hx₄, rfl, rfl, trivial⟩ EC.sa ?_
    have free : takerIn K C kP = some none := by
      rw [takerIn, IC.noF]
      rfl
    refine osa_exc0 (pre := [(t1, _), (h₂.objs.size, _)]) (post := []) F.store_ArithmeticError F₄ N₄ X₄ EC.eo free EC.hdC (fun p z => ?_) (fun p z => nomatch z) (putName_dict _ _ _ _ _ _) rfl (by show 1 ≤ 1000; decide) fun dx h₅ F₅ N₅ lt₅ => ?_
    · rcases List.mem_cons.mp z with rfl | z
      · exact tx
      · obtain rfl := List.mem_singleton.mp z
        exact ux
    have xd : x < dx := lt₅ (x, excObj C t1 none .none) (by simp)
    have ud : h₂.objs.size < dx := lt₅ (h₂.objs.size, kxs_mw "ArithmeticError.__init__" x) (by simp)
    have td : t1 < dx := lt₅ (t1, _) List.mem_cons_self
    have X₅ : K.In h₅ := X₀.keeps F₅.keep
    have hx₅ := (N₅ (x, excObj C t1 (some dx) .none) (by simp)).1
    have hd₅ := (N₅ _ List.mem_cons_self).1
    refine ks_wpAt_execs_cons (ks_wpAt_Assign_Attr (wpAt_of_wpAny (wpAny_Name (wpAny_loadName_local rfl l2_a F₅.ns mA ?_) (by decide +kernel))))
    refine wpAny_Name (wpAny_loadName_local rfl l2_self F₅.ns mS ?_) (by decide +kernel)
    refine set_plain X₅ (od := some _) ⟨hx₅, rfl, rfl, hd₅⟩ EC.sa ?_
    have free2 : takerIn K C kA = some none := by
      rw [takerIn, noA]
      rfl
    refine osa_excD (x := x) (t := t1) (dx := dx) (c2 := .none) (pre := []) (post := [(t1, _), (h₂.objs.size, _), (x, excObj C t1 (some dx) .none)]) F.store_ArithmeticError F₅ N₅ X₅ (by simp) EC.eo free2 EC.hdC (by rw [lookIn_dict]; rfl) (fun p z => nomatch z) (fun p z => ?_) (putName_dict _ _ _ _ _ _) rfl (by show 2 ≤ 1000; decide) fun h₆ F₆ N₆ => ?_
    · rcases List.mem_cons.mp z with rfl | z
      · exact Nat.ne_of_lt td
      · rcases List.mem_cons.mp z with rfl | z
        · exact Nat.ne_of_lt ud
        · obtain rfl := List.mem_singleton.mp z
          exact Nat.ne_of_lt xd
    refine wpAt_of_wpAny (wpAny_execs_nil ?_)
    exact hq h₆ _ dx ⟨fun b o hb e => F₆.keep b o (hideAll_get [x] e fun z => hb (List.mem_singleton.mp z)), ⟨t1, (N₆ (x, excObj C t1 (some dx) .none) (by simp)).1⟩, Nat.le_of_lt (Nat.lt_trans L₂ ud), Nat.ne_of_gt xd, two_keys (N₆ _ List.mem_cons_self).1⟩
end
end ErrX
end PySem

namespace PySem
namespace ErrX
open PySem.W PySem.Calls PyProof.Rows PySem.HandSPX
/-- a made error with two fields -/
structure Made2 (h h' : Heap) (e C d : Addr) (v u : Value) : Prop where
  keep : ∀ b o, h.get? b = some o → h'.get? b = some o
  new : h.objs.size ≤ e
  obj : ∃ oe vs, h'.get? e = some oe ∧ oe.cls = .ref C ∧ oe.dict = some d ∧ oe.data = .fields vs ∧ vs[1]? = some .none
  dbig : h.objs.size ≤ d
  dne : d ≠ e
  ns : h'.Ns1 d (fun y => if y = kP then some v else if y = kA then some u else none)
/-- its __init__ does as it should -/
structure IniOk2 (prog : Program) (w : World) (K : Frag) (mg : Str → Option Value) (C fI : Addr) : Prop where
  iC : findIn K (.ref C) "__init__" = some (some (.ref fI))
  tC : typeIn K (.ref fI) = some (.type "function")
  run : ∀ (A : Around) (R : Result → Shared → Prop) (s : Shared) (x t0 : Addr) (v u : Value), L2.Mod K mg s.heap → s.heap.get? x = some (excO C t0) → K.lookup x = none → A.depth < recursionLimit → FmtN v → FmtN u →
    (∀ h' tk dx, IniEnd2 s.heap h' x C dx v u → R (.ok (.ret .none)) { s with heap := h', toks := tk }) → codeAny (model prog w) A (.call (.ref fI) ⟨[.ref x, v, u], []⟩) R s
section
variable {prog : Program} {w : World} {A : Around} {E : Value → Shared → Prop} {R : Result → Shared → Prop} {s : Shared} {K : Frag} {mg : Str → Option Value} {C fI : Addr} {nm : Str}
theorem err_made2 (EC : ErrC K mg nm C) (IO : IniOk2 prog w K mg C fI) {v u : Value} (MO : L2.Mod K mg s.heap) (hroom : A.depth + 1 < recursionLimit) (fv : FmtN v) (fu : FmtN u)
    (hq : ∀ h' tk e d, Made2 s.heap h' e C d v u → R (.ok (.ret (.ref e))) { s with heap := h', toks := tk }) :
    codeAny (model prog w) A (.call (.ref C) ⟨[v, u], []⟩) R s := by
  have X := MO.kin
  obtain ⟨nm', N', qn, bs, bm, hdct, sn, sub, ab, col, dd, k0, k1, k2, k3, k5, hC, hT⟩ := excInit_of X EC.ei
  obtain ⟨hp, g, dr, tk, os⟩ := s
  have k : ∀ b o, hp.get? b = some o → ((hp.push (kdv_tup [v, u])).push (excO C hp.objs.size)).get? b = some o := fun b o e => Heap.get?_push_of_some _ (Heap.get?_push_of_some _ e)
  have hget : ((hp.push (kdv_tup [v, u])).push (excO C hp.objs.size)).get? (hp.objs.size + 1) = some (excO C hp.objs.size) := by heap_get
  have hnx : K.lookup (hp.objs.size + 1) = none := by
    cases e : K.lookup (hp.objs.size + 1) with
    | none => rfl
    | some o =>
      have z : hp.get? (hp.objs.size + 1) = some o := X _ _ e
      exact absurd (Nat.lt_of_succ_lt (Heap.lt_size z)) (Nat.lt_irrefl _)
  have MO' : L2.Mod K mg ((hp.push (kdv_tup [v, u])).push (excO C hp.objs.size)) := by
    obtain ⟨mb, h1, h2⟩ := MO.blt
    exact ⟨X.keeps k, MO.glob.keeps k, ⟨mb, h1.keeps k, h2⟩, MO.nolimit.keeps k⟩
  refine call_own F.excBase_ArithmeticError hT hC (looks_findIn X IO.iC) (fun self => bind_fn X self IO.tC) (by show 2 ≤ sizeLine; decide) ?_
  refine IO.run _ _ ⟨(hp.push (kdv_tup [v, u])).push (excO C hp.objs.size), g, dr, tk, os⟩ _ _ _ _ MO' hget hnx ?_ fv fu fun h' tk' dx ⟨k', ⟨t1, hx⟩, dn, dne, hns⟩ => ?_
  · show A.depth + 1 < recursionLimit
    exact hroom
  · have old : ∀ b o, hp.get? b = some o → h'.get? b = some o := fun b o e => k' b o (Nat.ne_of_lt (Nat.lt_succ_of_lt (Heap.lt_size e))) (k b o e)
    have z : hp.objs.size + 1 + 1 ≤ dx := by
      first
        | (simpa only [Heap.size_push] using dn)
        | exact dn
        | (have q := dn; rw [Heap.size_push, Heap.size_push] at q; exact q)
    exact ⟨rfl, hq h' tk' (hp.objs.size + 1) dx ⟨old, Nat.le_succ _, ⟨_, _, hx, rfl, rfl, rfl, rfl⟩, Nat.le_trans (Nat.le_trans (Nat.le_succ _) (Nat.le_succ _)) z, dne, hns⟩⟩
end
end ErrX
end PySem
namespace E1
open PySem PySem.Spec PyProof.Rows L2
open PySem.ErrX (ErrC IniOk2 FmtN FmtOk kP kA)
/-- a value that is written as a text of at most a thousand signs, None too -/
def VFmtN (v : V) : Prop := VFmt v ∨ v = .non
theorem VFmtN.ok {v : V} {u : Value} (h : VFmtN v) (r : RelV v u) : FmtN u := by
  rcases h with h | rfl
  · exact .inl (h.ok r)
  · exact .inr r
theorem relO_two {v u : V} {v' u' : Value} (r : RelV v v') (r2 : RelV u u') (f : Str) : RelO (List.lookup f [(kP, v), (kA, u)]) (if f = kP then some v' else if f = kA then some u' else none) := by
  by_cases hw : f = kP
  · subst hw
    rw [if_pos rfl, List.lookup_cons, beq_self_eq_true]
    exact r
  · rw [if_neg hw, List.lookup_cons, show (f == kP) = false from beq_eq_false_iff_ne.mpr hw]
    by_cases h2 : f = kA
    · subst h2
      rw [if_pos rfl]
      show RelO (List.lookup kA [(kA, u)]) _
      rw [List.lookup_cons, beq_self_eq_true]
      exact r2
    · rw [if_neg h2]
      show RelO (List.lookup f [(kA, u)]) _
      rw [List.lookup_cons, show (f == kA) = false from beq_eq_false_iff_ne.mpr h2]
      trivial
section
variable {X : Cx} {C fI : Addr} {x : Str}
/-- X(e, f), an error with two fields -/
def tMkErr2 (C : Addr) (ta : TA) : L2.St → Hp → XK → Prop := fun σ H Q => ta σ H fun vs H1 => ∃ v u, vs = [v, u] ∧ VFmtN v ∧ VFmtN u ∧ ∀ d, H1 d = none → Q (.ref C) (some d) (upd H1 d (.xd [(kP, v), (kA, u)]))
theorem pmk_err2 {a a2 : Expr} {ta : TA} {p pos : Pos} {k : Nat} (EC : ErrC X.K X.mg x C) (IO : IniOk2 X.prog X.w X.K X.mg C fI) (hr : Room k X.A) (ha : PA X [a, a2] ta) (hg : Gl X x := by rfl) (hdb : (x == ("__debug__" : Str)) = false := by decide)
    (he : starEach (a :: [a2]) X.env = (false, eval a X.env) :: starEach [a2] X.env := by rfl) (hpl : (backTo pos (starEach [a2] X.env)).any (·.1) = false := by rfl) :
    PMk X (.Call (.Name x p) [a, a2] [] pos) (tMkErr2 C ta) := by
  intro pins s σ H Q I h
  refine wpAny_Call_Name_kw (ld_glob I hg EC.gC ?_ hdb)
  refine PySem.W.callWith_K (h₀ := X.base) I.ok.mod.kin EC.kC (thn (ha.run pos pins s σ H _ I h) fun us s1 hh => ?_) he hpl
  obtain ⟨vs, H1, I1, r1, v, u, ev, fv, fu, q1⟩ := hh
  subst ev
  refine ⟨I1.kIn, ?_⟩
  cases r1 with
  | cons rv rn =>
    rename_i v' us'
    cases rn with
    | cons ru rm =>
    rename_i u' us2
    cases rm
    show wpAny _ _ (call (.ref C) [v', u']) _ _ _
    have MO : Mod X.K X.mg s1.heap := by
      obtain ⟨mb, h1, h2⟩ := I1.mod.blt
      exact ⟨I1.kIn, I1.mod.glob.keeps I1.bk, ⟨mb, h1.keeps I1.bk, h2⟩, I1.nolimit⟩
    obtain ⟨hp, g, dr, tk, os⟩ := s1
    refine wpAny_call (PySem.ErrX.err_made2 EC IO MO (by have := hr.dp; omega) (fv.ok rv) (fu.ok ru) fun h' tk' e d M => ?_)
    show MkP X pins σ Q (.ref e) ⟨h', g, dr, tk', os⟩
    obtain ⟨oe, fv', hoe, hc, hd, hdat, h1⟩ := M.obj
    have hns := M.ns
    obtain ⟨G', g1, g2⟩ := restrict h' fun b => decide (b ≠ e)
    have gk : ∀ b, b ≠ e → G'.get? b = h'.get? b := fun b hb => g1 b (decide_eq_true hb)
    have ge : G'.get? e = none := g2 e (by simp)
    have old : ∀ b o, hp.get? b = some o → G'.get? b = some o := fun b o q => (gk b (Nat.ne_of_lt (Nat.lt_of_lt_of_le (Heap.lt_size q) M.new))).trans (M.keep b o q)
    have ob : ObjOk X.prog X.w (upd H1 d (.xd [(kP, v), (kA, u)])) G' d (.xd [(kP, v), (kA, u)]) :=
      ⟨_, hns.at (fun o q => (gk d M.dne).trans q), fun f => relO_two rv ru f⟩
    have J : Inv X pins σ (upd H1 d (.xd [(kP, v), (kA, u)])) ⟨G', g, dr, tk', os⟩ := I1.laid (t' := tk') old M.dbig ob
    refine ⟨e, oe, fv', ⟨G', g, dr, tk', os⟩, _, .ref C, some d, rfl, J, fun b o q => ?_, ge, hoe, ⟨hc, hd⟩, hdat, h1, ?_, rfl, I1.bare, raises_own EC.exC EC.tyC, q1 d (I1.hok.fresh M.dbig)⟩
    · by_cases hb : b = e
      · have q' : G'.get? b = some o := q
        rw [hb, ge] at q'; cases q'
      · exact (gk b hb).symm.trans q
    · rw [upd_ne (Ne.symm M.dne)]
      exact I1.hok.fresh M.new
/-- raise X(e) -/
def tRaiseErr2 (C : Addr) (W : WX) (ta : TA) : TS := fun _ σ H => tMkErr2 C ta σ H fun cls d H' => W cls d σ H'
theorem ps_raiseErr2 {a a2 : Expr} {ta : TA} {W : WX} {p pos pos2 : Pos} {k : Nat} (hc : X.calm = true) (EC : ErrC X.K X.mg x C) (IO : IniOk2 X.prog X.w X.K X.mg C fI) (hr : Room k X.A) (tk : Takes X W) (ha : PA X [a, a2] ta) (hg : Gl X x := by rfl) (hdb : (x == ("__debug__" : Str)) = false := by decide)
    (he : starEach (a :: [a2]) X.env = (false, eval a X.env) :: starEach [a2] X.env := by rfl) (hpl : (backTo pos (starEach [a2] X.env)).any (·.1) = false := by rfl) :
    PS X (.Raise (some (.Call (.Name x p) [a, a2] [] pos)) none pos2) (tRaiseErr2 C W ta) := ps_raise hc tk (pmk_err2 EC IO hr ha hg hdb he hpl)
end
end E1

namespace E1
open PySem PySem.Spec PyProof.Rows L2
/-! ### a def of the text that is called by its name -/
def Cal (P : Program) (w : World) (K : PySem.W.Frag) (mg : Str → Option Value) (base : Heap) (k : Nat) (x : Str) (ps : List Str) (sp : Sp) : Prop :=
  ∃ (f : Addr) (fd : FuncData), mg x = some (.ref f) ∧ PySem.W.keepIn K (.ref f) = true ∧ Binds K fd ps [] ∧ FnOk P w K mg base CX0 k f fd ps sp
theorem pe_cal {X : Cx} {k j : Nat} {x : Str} {ps : List Str} {sp : Sp} {e : Expr} {es : List Expr} {t : TA} {p pos : Pos} (c : Cal X.prog X.w X.K X.mg X.base k x ps sp) (hr : Room j X.A) (ha : PA X (e :: es) t) (hle : k ≤ j := by decide) (hg : Gl X x := by rfl)
    (hdb : (x == ("__debug__" : Str)) = false := by decide) (he : starEach (e :: es) X.env = (false, eval e X.env) :: starEach es X.env := by rfl) (hpl : (backTo pos (starEach es X.env)).any (·.1) = false := by rfl) :
    PE X (.Call (.Name x p) (e :: es) [] pos) (tCall sp [] E0 t) := by
  obtain ⟨f, fd, h1, h2, h3, h4⟩ := c
  exact pe_call h4 (hr.mono hle) hg h1 h2 h3 .nil pass0 ha hdb he hpl
/-! ### heaps -/
def SameBut (a : Addr) (H H' : Hp) : Prop := ∀ b o, b ≠ a → H b = some o → H' b = some o
theorem SameBut.refl (a : Addr) (H : Hp) : SameBut a H H := fun _ _ _ h => h
theorem SameBut.trans {a : Addr} {H H1 H2 : Hp} (x : SameBut a H H1) (y : SameBut a H1 H2) : SameBut a H H2 := fun b o n h => y b o n (x b o n h)
theorem SameBut.of {a : Addr} {H H' : Hp} (s : Same H H') : SameBut a H H' := fun b o _ h => s b o h
theorem SameBut.upd {a : Addr} {H : Hp} {o : HO} : SameBut a H (upd H a o) := fun b _ n h => by
  rw [upd_ne n]
  exact h
theorem same_new {H : Hp} {p : Addr} {o : HO} (h : H p = none) : Same H (upd H p o) := fun b x e => by
  rw [upd_ne (ne_of_none e h)]
  exact e
theorem Same.tup {K : PySem.W.Frag} {H H' : Hp} {a : Addr} {xs : List V} (e : Same H H') (h : SqT K H a xs) : SqT K H' a xs := by
  rcases h with (h | ⟨o, h⟩) | h
  · exact .inl (.inl (e _ _ h))
  · exact .inl (.inr ⟨o, e _ _ h⟩)
  · exact .inr h
theorem a0 {α : Type} {x : α} {l : List α} : atI (x :: l) 0 = some x := atI_nat (j := 0) rfl
theorem a1 {α : Type} {x y : α} {l : List α} : atI (x :: y :: l) 1 = some y := atI_nat (j := 1) rfl
theorem a2 {α : Type} {x y z : α} {l : List α} : atI (x :: y :: z :: l) 2 = some z := atI_nat (j := 2) rfl
theorem toB {p : Prop} [Decidable p] (h : decide p = true) : p := of_decide_eq_true h
theorem toNB {p : Prop} [Decidable p] (h : ¬ decide p = true) : ¬ p := fun z => h (decide_eq_true z)
/-- a well: the digits left, a number that is mixed, how many were mixed (at most c) -/
def WellAt (H : Hp) (a : Addr) (c : Int) : Prop := ∃ x y z : Int, H a = some (.lst [.int x, .int y, .int z]) ∧ 0 ≤ y ∧ y < 2147483647 ∧ 0 ≤ z ∧ z ≤ c
theorem WellAt.mono {H : Hp} {a : Addr} {c d : Int} (h : WellAt H a c) (l : c ≤ d) : WellAt H a d := by
  obtain ⟨x, y, z, e, h1, h2, h3, h4⟩ := h
  exact ⟨x, y, z, e, h1, h2, h3, by omega⟩
theorem WellAt.same {H H' : Hp} {a : Addr} {c : Int} (h : WellAt H a c) (s : Same H H') : WellAt H' a c := by
  obtain ⟨x, y, z, e, h1, h2, h3, h4⟩ := h
  exact ⟨x, y, z, s _ _ e, h1, h2, h3, h4⟩
theorem WellAt.but {H H' : Hp} {a b : Addr} {c : Int} (h : WellAt H a c) (s : SameBut b H H') (n : a ≠ b) : WellAt H' a c := by
  obtain ⟨x, y, z, e, h1, h2, h3, h4⟩ := h
  exact ⟨x, y, z, s _ _ n e, h1, h2, h3, h4⟩
/-! ### promises of the law's helpers -/
def spCell (K : PySem.W.Frag) : Sp := fun vs H Q _ => ∃ (a : Addr) (ns : List Int) (k : Nat), vs = [.ref a, .int k] ∧ SqL K H a (ns.map V.int) ∧ Q (.int (ns.getD k 0)) H
def spWell : Sp := fun vs H Q _ => ∃ c : Int, vs = [.int c] ∧ ∀ p : Addr, H p = none → ∀ H', Same H H' → WellAt H' p 0 → Q (.ref p) H'
/-- a number from 0 to below m; the well has at most one more -/
def spDraw : Sp := fun vs H Q _ => ∃ (a : Addr) (c m : Int), vs = [.ref a, .int m] ∧ WellAt H a c ∧ c ≤ 1000000000 ∧ 0 < m ∧ m.natAbs < 2 ^ 9000 ∧
  ∀ (r : Int) (H' : Hp), 0 ≤ r → r < m → SameBut a H H' → True → WellAt H' a (c + 1) → Q (.int r) H'
theorem primes5 (k : Int) : ∃ p : Int, atI [V.int 2147483629, V.int 2147483587, V.int 2147483579, V.int 2147483563, V.int 2147483549] (k % 5) = some (.int p) ∧ 2147483549 ≤ p ∧ p ≤ 2147483629 := by
  have h0 : 0 ≤ k % 5 := Int.emod_nonneg _ (by decide)
  have h1 : k % 5 < 5 := Int.emod_lt_of_pos _ (by decide)
  generalize k % 5 = r at *
  rcases (by omega : r = 0 ∨ r = 1 ∨ r = 2 ∨ r = 3 ∨ r = 4) with rfl | rfl | rfl | rfl | rfl
  · exact ⟨_, rfl, by decide, by decide⟩
  · exact ⟨_, rfl, by decide, by decide⟩
  · exact ⟨_, rfl, by decide, by decide⟩
  · exact ⟨_, rfl, by decide, by decide⟩
  · exact ⟨_, rfl, by decide, by decide⟩
def topS (i : Nat) : Stmt := PySem.Challenge.pw_echobound_k38_the_same_without_times.main.body.getD i (.Pass ⟨0, 0, 0, 0⟩)
abbrev s__wall : Stmt := topS 0
abbrev s_is_whole : Stmt := topS 10
abbrev s_shared_divisor : Stmt := topS 11
abbrev s_lowest : Stmt := topS 12
abbrev s_times : Stmt := topS 13
abbrev s_divided : Stmt := topS 14
abbrev s_two_to : Stmt := topS 15
abbrev s_downward : Stmt := topS 17
abbrev s_upward : Stmt := topS 18
abbrev s_inward : Stmt := topS 19
abbrev s_outward : Stmt := topS 20
abbrev s_nearest_greater : Stmt := topS 21
abbrev s_nearest_even : Stmt := topS 22
abbrev s_nearest_far : Stmt := topS 23
abbrev s_is_manner : Stmt := topS 25
abbrev s_rounded : Stmt := topS 26
abbrev s_is_width : Stmt := topS 32
abbrev s_is_point : Stmt := topS 33
abbrev s_is_ends : Stmt := topS 34
abbrev s_is_place : Stmt := topS 44
abbrev s_is_factor : Stmt := topS 45
abbrev s_in_point : Stmt := topS 46
abbrev s_old_point : Stmt := topS 47
abbrev s_times_point : Stmt := topS 48
abbrev s_sum_point : Stmt := topS 49
abbrev s_move_point : Stmt := topS 50
abbrev s_keep_point : Stmt := topS 51
abbrev s_is_written_as_row : Stmt := topS 53
abbrev s_row_point : Stmt := topS 54
abbrev s_check_length : Stmt := topS 55
abbrev s_check_forms : Stmt := topS 56
abbrev s_is_hold : Stmt := topS 57
abbrev s_check_holds : Stmt := topS 58
abbrev s_checked_points : Stmt := topS 59
abbrev s_check_links : Stmt := topS 60
abbrev s_enter_form : Stmt := topS 62
abbrev s_swept : Stmt := topS 63
abbrev s_renumbered : Stmt := topS 64
abbrev s_spelled : Stmt := topS 66
abbrev s_put_times : Stmt := topS 67
abbrev s_without_times : Stmt := topS 68
abbrev s_is_state : Stmt := topS 70
abbrev s_check_state : Stmt := topS 71
abbrev s_check_word : Stmt := topS 72
abbrev s_sum_number : Stmt := topS 73
abbrev s_number_of_row : Stmt := topS 74
abbrev s_state_behind : Stmt := topS 75
abbrev s_turn_of : Stmt := topS 76
abbrev s_turned : Stmt := topS 77
abbrev s__law_cell_at : Stmt := topS 79
abbrev s__law_well : Stmt := topS 80
abbrev s__law_draw : Stmt := topS 81
abbrev s__law_form : Stmt := topS 82
abbrev s__law_word : Stmt := topS 83
abbrev s__law_coefficient : Stmt := topS 84
abbrev s__law_leaf : Stmt := topS 85
abbrev s__law_begun : Stmt := topS 86
abbrev s__law_point : Stmt := topS 87
abbrev s__law_one_more : Stmt := topS 88
abbrev s__law_filled : Stmt := topS 89
abbrev s__law_links : Stmt := topS 90
abbrev s__law_built_of : Stmt := topS 91
abbrev s__law_net : Stmt := topS 92
abbrev s__law_made : Stmt := topS 93
abbrev s__law_spelled : Stmt := topS 94
abbrev s__law_again : Stmt := topS 95
abbrev s__law_due : Stmt := topS 96
abbrev s__law_amiss : Stmt := topS 97
abbrev s__law_worth_alike : Stmt := topS 98
abbrev s__law_same : Stmt := topS 99
abbrev s__law_refused : Stmt := topS 100
abbrev s__law_right : Stmt := topS 101
abbrev s_law : Stmt := topS 102
section
variable {P : Program} {w : World} {K : PySem.W.Frag} {mg : Str → Option Value} {base : Heap}
theorem sc__law_cell_at : FnScope ["_law_script", "_law_k"] ["_law_script", "_law_k"] (defScope s__law_cell_at) := ⟨rfl, rfl, rfl, by decide +kernel, rfl, by decide +kernel, by decide +kernel⟩
theorem sc__law_well : FnScope ["_law_cell"] ["_law_cell"] (defScope s__law_well) := ⟨rfl, rfl, rfl, by decide +kernel, rfl, by decide +kernel, by decide +kernel⟩
theorem sc__law_draw : FnScope ["_law_well_here", "_law_many", "_law_found", "_law_prime", "_law_mixed"] ["_law_well_here", "_law_many"] (defScope s__law_draw) := ⟨rfl, rfl, rfl, by decide +kernel, rfl, by decide +kernel, by decide +kernel⟩
theorem ok_cell {f : Addr} {fd : FuncData} {k : Nat} (F : Fun K "_law_cell_at" "_law_cell_at" s__law_cell_at f fd) (zl : mg "len" = none) : FnOk P w K mg base CX0 (k + 1) f fd ["_law_script", "_law_k"] (spCell K) := by
  refine F.ok sc__law_cell_at (fun vs H Q E h => ?_) (fun cdv A outer s H vs Q E hr h => ?_)
  · obtain ⟨a, ns, k, rfl, _⟩ := h
    rfl
  · obtain ⟨a, ns, k, rfl, hS, q⟩ := h
    refine ⟨_, (pss_cons (ps_if (pt_cmpR op_lt (pv 1) (pe_callB call_len_seq (by rfl) zl PySem.boot_len (pa_cons (pv 0) pa_nil)) (nomark _)) (pss_one (ps_ret (pe_ix ix_list (pv 0) (pv 1) (fun _ _ => rfl)))) pss_nil)
      (pss_one (ps_ret pe_int))), ?_⟩
    refine ⟨_, rfl, _, rfl, a, _, rfl, .inl hS, _, _, rfl, rfl, _, rfl, ite2 (fun c => ?_) (fun c => ?_)⟩
    · have hk : k < ns.length := by
        have := toB c
        rw [List.length_map] at this
        omega
      refine ⟨_, rfl, _, rfl, a, _, k, .int (ns.getD k 0), rfl, rfl, hS, atI_nat ?_, q⟩
      rw [List.getElem?_map, List.getElem?_eq_getElem hk, List.getD_eq_getElem?_getD, List.getElem?_eq_getElem hk]
      rfl
    · have hk : ¬ k < ns.length := fun z => by
        have := toNB c
        rw [List.length_map] at this
        omega
      have e : ns.getD k 0 = 0 := by
        rw [List.getD_eq_getElem?_getD, List.getElem?_eq_none (by omega)]
        rfl
      rw [e] at q
      exact q
theorem ok_well {f : Addr} {fd : FuncData} {k : Nat} (F : Fun K "_law_well" "_law_well" s__law_well f fd) (zi : mg "int" = none) : FnOk P w K mg base CX0 (k + 1) f fd ["_law_cell"] spWell := by
  refine F.ok sc__law_well (fun vs H Q E h => ?_) (fun cdv A outer s H vs Q E hr h => ?_)
  · obtain ⟨c, rfl, _⟩ := h
    rfl
  · obtain ⟨c, rfl, q⟩ := h
    refine ⟨_, (pss_one (ps_ret (pe_lst (pa_cons (pe_op op_mul (pv 0) (pe_callTy call_int1 (by rfl) zi (by decide +kernel) (pa_cons (pe_cmpR op_ge (pv 0) (pe_op op_pow pe_int pe_int) (nomark _)) pa_nil))) (pa_cons (pe_op op_mod (pv 0) pe_int) (pa_cons pe_int pa_nil)))))), ?_⟩
    refine ⟨_, rfl, _, rfl, _, _, rfl, rfl, ⟨by decide, by decide, by decide⟩, _, _, rfl, rfl, .inr ⟨_, rfl, _, _, rfl, rfl, .inr ?_, ?_⟩⟩
    · split <;> decide
    · refine ⟨_, rfl, _, _, rfl, rfl, (by show (0 : Int) < 2147483647; decide), (by show 3 ≤ sizeLine; decide), fun p hp => ?_⟩
      exact q p hp _ (same_new hp) ⟨_, _, _, upd_same, Int.emod_nonneg _ (by decide), Int.emod_lt_of_pos _ (by decide), Int.le_refl _, Int.le_refl _⟩
theorem ok_draw {f : Addr} {fd : FuncData} {k : Nat} (F : Fun K "_law_draw" "_law_draw" s__law_draw f fd) : FnOk P w K mg base CX0 (k + 1) f fd ["_law_well_here", "_law_many"] spDraw := by
  refine F.ok sc__law_draw (fun vs H Q E h => ?_) (fun cdv A outer s H vs Q E hr h => ?_)
  · obtain ⟨a, c, m, rfl, _⟩ := h
    rfl
  · obtain ⟨a, c, m, rfl, ⟨x, y, z, hw, y0, y1, z0, z1⟩, hc, m0, m1, q⟩ := h
    have fr : ∀ o b, H b = none → (upd H a o) b = none := fun o b hb => by
      rw [upd_ne (fun e => by rw [e, hw] at hb; cases hb)]
      exact hb
    refine ⟨_, (pss_cons (ps_if (pt_cmpR op_gt (pe_ix ix_list (pv 0) pe_int (fun _ _ => rfl)) pe_int (nomark _)) (pss_cons (ps_set (i := 2) sc__law_draw.nd rfl (.inl rfl) (pe_op op_mod (pe_ix ix_list (pv 0) pe_int (fun _ _ => rfl)) (pv 1)))
      (pss_cons (ps_asg (pe_op op_fdivW (pe_ix ix_list (pv 0) pe_int (fun _ _ => rfl)) (pv 1)) (pg_sub (pv 0) pe_int set_list))
      (pss_one (ps_ret (pv 2))))) pss_nil)
      (pss_cons (ps_asg (pe_op op_add (pe_ix ix_list (pv 0) pe_int (fun _ _ => rfl)) pe_int) (pg_sub (pv 0) pe_int set_list))
      (pss_cons (ps_set (i := 3) sc__law_draw.nd rfl (.inl rfl) (pe_ix ix_list (pe_lst (pa_cons pe_int (pa_cons pe_int (pa_cons pe_int (pa_cons pe_int (pa_cons pe_int pa_nil)))))) (pe_op op_mod (pe_ix ix_list (pv 0) pe_int (fun _ _ => rfl)) pe_int) (fun _ _ => rfl)))
      (pss_cons (ps_set (i := 4) sc__law_draw.nd rfl (.inl rfl) (pe_op op_mod (pe_op op_pow (pe_op op_add (pe_op op_add (pe_ix ix_list (pv 0) pe_int (fun _ _ => rfl)) (pe_op op_mul pe_int (pe_ix ix_list (pv 0) pe_int (fun _ _ => rfl)))) pe_int) pe_int) (pv 3)))
      (pss_cons (ps_set (i := 4) sc__law_draw.nd rfl (.inl rfl) (pe_op op_mod (pe_op op_mul (pe_op op_add (pv 4) (pe_ix ix_list (pv 0) pe_int (fun _ _ => rfl))) (pe_op op_add (pe_op op_fdiv (pv 4) pe_int) pe_int)) (pv 3)))
      (pss_one (ps_ret (pe_op op_mod (pe_op op_fdiv (pv 4) pe_int) (pv 1))))))))), ?_⟩
    refine ⟨_, rfl, a, _, 0, .int x, rfl, rfl, SqL.of hw, a0, x, 0, rfl, rfl, _, rfl, ite2 (fun c => ?_) (fun c => ?_)⟩
    · refine ⟨_, rfl, a, _, 0, .int x, rfl, rfl, SqL.of hw, a0, _, rfl, x, m, rfl, rfl, m0, ?_⟩
      refine ⟨_, rfl, a, _, 0, .int x, rfl, rfl, SqL.of hw, a0, _, rfl, x, m, rfl, rfl, wide_div m0 m1 (by decide) (Nat.le_refl _), _, rfl, a, _, 0, 0, rfl, rfl, hw, rfl, ?_⟩
      refine ⟨_, rfl, q _ _ (Int.emod_nonneg _ (by omega)) (Int.emod_lt_of_pos _ m0) SameBut.upd trivial ⟨_, _, _, upd_same, y0, y1, z0, by omega⟩⟩
    · refine ⟨_, rfl, a, _, 2, .int z, rfl, rfl, SqL.of hw, a2, z, 1, rfl, rfl, _, rfl, a, _, 2, 2, rfl, rfl, hw, rfl, ?_⟩
      have hw2 : (upd H a (.lst [V.int x, V.int y, V.int (z + 1)])) a = some (.lst [V.int x, V.int y, V.int (z + 1)]) := upd_same
      have hz : 0 ≤ z + 1 := by omega
      refine ⟨(by show 5 ≤ sizeLine; decide), fun l hl => ?_⟩
      replace hl : (upd H a (.lst [V.int x, V.int y, V.int (z + 1)])) l = none := hl
      have sl : Same (upd H a (.lst [V.int x, V.int y, V.int (z + 1)])) (upd (upd H a (.lst [V.int x, V.int y, V.int (z + 1)])) l (.lst [V.int 2147483629, V.int 2147483587, V.int 2147483579, V.int 2147483563, V.int 2147483549])) := same_new hl
      have h_l : (upd (upd H a (.lst [V.int x, V.int y, V.int (z + 1)])) l (.lst [V.int 2147483629, V.int 2147483587, V.int 2147483579, V.int 2147483563, V.int 2147483549])) l = some (.lst [V.int 2147483629, V.int 2147483587, V.int 2147483579, V.int 2147483563, V.int 2147483549]) := upd_same
      have hw3 : (upd (upd H a (.lst [V.int x, V.int y, V.int (z + 1)])) l (.lst [V.int 2147483629, V.int 2147483587, V.int 2147483579, V.int 2147483563, V.int 2147483549])) a = some (.lst [V.int x, V.int y, V.int (z + 1)]) := sl _ _ hw2
      obtain ⟨pr, ip, p0, p1⟩ := primes5 (z + 1)
      refine ⟨_, rfl, a, _, 2, .int (z + 1), rfl, rfl, SqL.of hw3, a2, _, _, rfl, rfl, (by show (0 : Int) < 5; decide), l, _, _, _, rfl, rfl, SqL.of h_l, ip, ?_⟩
      have n5 : 0 ≤ y + 6701 * (z + 1) + 3 ∧ y + 6701 * (z + 1) + 3 < 18446744073709551616 := by omega
      refine ⟨_, rfl, a, _, 1, .int y, rfl, rfl, SqL.of hw3, a1, _, rfl, a, _, 2, .int (z + 1), rfl, rfl, SqL.of hw3, a2, _, _, rfl, rfl, .inl ⟨by decide, by decide⟩, _, _, rfl, rfl, _, _, rfl, rfl, _, _, rfl, rfl, ⟨by decide, by decide, ?_⟩, _, rfl, _, _, rfl, rfl, (by omega), ?_⟩
      · show (y + 6701 * (z + 1) + 3).natAbs < 18446744073709551616
        omega
      · generalize hn : (y + 6701 * (z + 1) + 3) ^ (5 : Int).toNat % pr = n
        have n0 : 0 ≤ n := by rw [← hn]; exact Int.emod_nonneg _ (by omega)
        have n1 : n < pr := by rw [← hn]; exact Int.emod_lt_of_pos _ (by omega)
        refine ⟨_, rfl, _, rfl, a, _, 2, .int (z + 1), rfl, rfl, SqL.of hw3, a2, _, _, rfl, rfl, _, rfl, _, _, rfl, rfl, ⟨by decide, by decide⟩, _, _, rfl, rfl, _, _, rfl, rfl, .inl ⟨by omega, by omega⟩, _, rfl, _, _, rfl, rfl, (by omega), ?_⟩
        generalize hm : (n + (z + 1)) * (n / 1013 + 40693) % pr = u
        have u0 : 0 ≤ u := by rw [← hm]; exact Int.emod_nonneg _ (by omega)
        have u1 : u < pr := by rw [← hm]; exact Int.emod_lt_of_pos _ (by omega)
        refine ⟨_, rfl, _, _, rfl, rfl, ⟨by decide, by decide⟩, _, rfl, _, _, rfl, rfl, m0, ?_⟩
        refine q _ _ (Int.emod_nonneg _ (by omega)) (Int.emod_lt_of_pos _ m0) (SameBut.upd.trans (.of sl)) trivial ⟨_, _, _, hw3, y0, y1, by omega, by omega⟩
end
end E1

namespace E1
open PySem PySem.Spec PyProof.Rows L2
abbrev s_Form___init__ : Stmt := inClass (topS 35) 0
abbrev s_Form_least : Stmt := inClass (topS 35) 1
abbrev s_Form_greatest : Stmt := inClass (topS 35) 2
abbrev s_Form_has : Stmt := inClass (topS 35) 3
abbrev s_Form_step : Stmt := inClass (topS 35) 4
abbrev s_Form_slack : Stmt := inClass (topS 35) 5
abbrev s_Form_value : Stmt := inClass (topS 35) 6
abbrev s_Form_word_for : Stmt := inClass (topS 35) 7
abbrev s_Form_ended : Stmt := inClass (topS 35) 8
abbrev s_Form_kept : Stmt := inClass (topS 35) 9
abbrev s_Form_kept_at : Stmt := inClass (topS 35) 10
abbrev s_Form_bits : Stmt := inClass (topS 35) 11
abbrev s_Form_is_bits : Stmt := inClass (topS 35) 12
abbrev s_Form_word_of : Stmt := inClass (topS 35) 13
abbrev s_Form_added : Stmt := inClass (topS 35) 14
abbrev s_Form___eq__ : Stmt := inClass (topS 35) 15
abbrev s_Form___str__ : Stmt := inClass (topS 35) 16
abbrev s_Form___repr__ : Stmt := inClass (topS 35) 17
abbrev s_Net___init__ : Stmt := inClass (topS 61) 0
abbrev s_Net___eq__ : Stmt := inClass (topS 61) 10
abbrev s_Net___str__ : Stmt := inClass (topS 61) 11
abbrev s_Net___repr__ : Stmt := inClass (topS 61) 12
abbrev s_Net_forms : Stmt := inClass (topS 61) 1
abbrev s_Net_enters : Stmt := inClass (topS 61) 2
abbrev s_Net_rows : Stmt := inClass (topS 61) 3
abbrev s_Net_holds : Stmt := inClass (topS 61) 4
abbrev s_Net_out : Stmt := inClass (topS 61) 5
abbrev s_Net_points : Stmt := inClass (topS 61) 6
abbrev s_Net_keeps : Stmt := inClass (topS 61) 7
abbrev s_Net_start : Stmt := inClass (topS 61) 8
abbrev s_Net___len__ : Stmt := inClass (topS 61) 9
abbrev s_BadNet___init__ : Stmt := inClass (topS 7) 0

end E1

namespace E1
open PySem PySem.Spec PyProof.Rows L2


/-! ### error classes over the small head -/
abbrev IniV : Type := Option (Str × Str × Arguments × FuncBody × Scope × Addr × List Str × Addr)
def iniA (K : PySem.W.Frag) (x : Str) : Addr := He.ma K (He.ga K x) "__init__"
def iniF (K : PySem.W.Frag) (x : Str) : Option FuncData := match K.lookup (iniA K x) with
  | some ⟨_, _, .func fd, _⟩ => some fd
  | _ => none
def iniW (K : PySem.W.Frag) (x : Str) : IniV := (iniF K x).map fun fd => (fd.name, fd.qualname, fd.params, fd.body, fd.scope, fd.globals, fd.closure.map (·.1), fd.builtins)
structure ErrD where
  x : Str
  qual : Str
  params : Arguments
  body : List Stmt
  scope : Scope
  one : Bool
def ErrD.val (d : ErrD) : IniV := some ("__init__", d.qual, d.params, .stmts d.body, d.scope, mainGlobals, ["__class__"], builtinsNs)
/-- one default, or none -/
def iniD (K : PySem.W.Frag) (one : Bool) (v : Value) : Bool := match one, v with
  | false, v => decide (v = .none)
  | true, .ref T => (match K.lookup T with
    | some ⟨_, _, .seq its _, _⟩ => decide (its.size = 1)
    | _ => false)
  | true, _ => false
def iniS (v : Option Value) : Bool := match v with
  | some (.str f _) => decide (f = ("/claim/cut.py" : Str))
  | _ => false
def iniC (K : PySem.W.Frag) (qual : Str) (v : Value) : Bool := match v with
  | .ref c => PySem.W.codeIn K (.ref c) qual && (match K.lookup c with
    | some ⟨_, _, .fields vs, _⟩ => iniS (vs[2]?)
    | _ => false)
  | _ => false
def iniL (K : PySem.W.Frag) (x : Str) (l : List (Str × Addr)) : Bool := match l with
  | [(_, c)] => (match K.lookup c with
    | some ⟨_, _, .cell (some v), _⟩ => decide (v = .ref (He.ga K x))
    | _ => false)
  | _ => false
def ErrD.ok (K : PySem.W.Frag) (d : ErrD) : Bool := match iniF K d.x with
  | some fd => iniD K d.one fd.defaults && (iniC K d.qual fd.code && iniL K d.x fd.closure)
  | none => false
structure IniHas (prog : Program) (K : PySem.W.Frag) (d : ErrD) (cc : Addr) (dV : Value) : Prop where
  fn : ∃ (oc : Value) (od : Option Addr) (kV doc pm : Value) (an : Option Addr) (cda : Addr) (ct : Value) (osl : Array (Option Value)),
    K.lookup (iniA K d.x) = some ⟨oc, od, .func (PySem.W.ksFn "__init__" d.qual d.params d.body d.scope dV kV doc pm an (.ref cda) ct cc), osl⟩ ∧ PySem.W.codeIn K (.ref cda) d.qual = true ∧
    ∃ (ccl : Value) (cdd : Option Addr) (vs : Array Value) (ccs : Array (Option Value)) (file : Str) (tf : Tok), K.lookup cda = some ⟨ccl, cdd, .fields vs, ccs⟩ ∧ vs[2]? = some (.str file tf) ∧ ((prog.main.file : Str) == file) = true
  cell : ∃ (cl : Value) (cld : Option Addr) (csl : Array (Option Value)), K.lookup cc = some ⟨cl, cld, .cell (some (.ref (He.ga K d.x))), csl⟩
  dfl : iniD K d.one dV = true
theorem iniC_ok {K : PySem.W.Frag} {qual : Str} {v : Value} (h : iniC K qual v = true) : ∃ c, v = .ref c ∧ PySem.W.codeIn K (.ref c) qual = true ∧ ∃ (ccl : Value) (cdd : Option Addr) (vs : Array Value) (ccs : Array (Option Value)) (tf : Tok), K.lookup c = some ⟨ccl, cdd, .fields vs, ccs⟩ ∧ vs[2]? = some (.str "/claim/cut.py" tf) := by
  cases v with
  | ref c =>
    obtain ⟨h1, h2⟩ := He.ba (show (_ && _) = true from h)
    refine ⟨c, rfl, h1, ?_⟩
    cases e : K.lookup c with
    | none =>
      rw [e] at h2
      cases h2
    | some o =>
      rw [e] at h2
      obtain ⟨oc, od, dt, sl⟩ := o
      cases dt with
      | fields vs =>
        replace h2 : iniS (vs[2]?) = true := h2
        cases e2 : vs[2]? with
        | none =>
          rw [e2] at h2
          cases h2
        | some u =>
          rw [e2] at h2
          cases u with
          | str f tf =>
            have e3 : f = ("/claim/cut.py" : Str) := of_decide_eq_true h2
            subst e3
            exact ⟨_, _, _, _, _, rfl, e2⟩
          | _ => cases h2
      | _ => cases h2
  | _ => cases h
theorem iniL_ok {K : PySem.W.Frag} {x : Str} {l : List (Str × Addr)} (h : iniL K x l = true) (hl : l.map (·.1) = [("__class__" : Str)]) : ∃ c, l = [(("__class__" : Str), c)] ∧ ∃ (cl : Value) (cld : Option Addr) (csl : Array (Option Value)), K.lookup c = some ⟨cl, cld, .cell (some (.ref (He.ga K x))), csl⟩ := by
  match l, hl, h with
  | [(n, c)], hl, h =>
    cases hl
    refine ⟨c, rfl, ?_⟩
    replace h : (match K.lookup c with
      | some ⟨_, _, .cell (some v), _⟩ => decide (v = .ref (He.ga K x))
      | _ => false) = true := h
    cases e : K.lookup c with
    | none =>
      rw [e] at h
      cases h
    | some o =>
      rw [e] at h
      obtain ⟨oc, od, dt, sl⟩ := o
      cases dt with
      | cell v =>
        cases v with
        | none => cases h
        | some v =>
          have e3 : v = .ref (He.ga K x) := of_decide_eq_true h
          subst e3
          exact ⟨_, _, _, rfl⟩
      | _ => cases h
theorem errD_ok {prog : Program} {K : PySem.W.Frag} {d : ErrD} (hf : (prog.main.file : Str) = "/claim/cut.py") (e : iniW K d.x = d.val) (c : d.ok K = true) : ∃ cc dV, IniHas prog K d cc dV := by
  unfold iniW at e
  unfold ErrD.ok at c
  cases q : iniF K d.x with
  | none =>
    rw [q] at c
    cases c
  | some fd =>
    rw [q] at c e
    obtain ⟨c1, c2⟩ := He.ba c
    obtain ⟨c3, c4⟩ := He.ba c2
    have lk : ∃ oc od sl, K.lookup (iniA K d.x) = some ⟨oc, od, .func fd, sl⟩ := by
      unfold iniF at q
      cases e1 : K.lookup (iniA K d.x) with
      | none =>
        rw [e1] at q
        cases q
      | some o =>
        rw [e1] at q
        obtain ⟨oc, od, dt, sl⟩ := o
        cases dt with
        | func fd2 =>
          cases q
          exact ⟨_, _, _, rfl⟩
        | _ => cases q
    obtain ⟨n1, n2, n3, n4, n5, n6, n7, n8, n9, n10, n11, n12, n13, n14, n15⟩ := fd
    have e2 : (some (n1, n2, n3, n4, n5, n6, n7.map (·.1), n15) : IniV) = (some (("__init__" : Str), d.qual, d.params, FuncBody.stmts d.body, d.scope, mainGlobals, [("__class__" : Str)], builtinsNs) : IniV) := e
    simp only [Option.some.injEq, Prod.mk.injEq] at e2
    obtain ⟨h1, h2, h3, h4, h5, h6, h7, h8⟩ := e2
    subst h1 h2 h3 h4 h5 h6 h8
    obtain ⟨cda, ec, k1, ccl, cdd, vs, ccs, tf, k2, k3⟩ := iniC_ok c3
    obtain ⟨cc, el, kl⟩ := iniL_ok c4 h7
    replace ec : n13 = .ref cda := ec
    replace el : n7 = [(("__class__" : Str), cc)] := el
    subst ec el
    obtain ⟨oc, od, sl, lk⟩ := lk
    exact ⟨cc, n8, ⟨oc, od, n9, n10, n11, n12, cda, n14, sl, lk, k1, ccl, cdd, vs, ccs, _, tf, k2, k3, by rw [hf]; exact beq_self_eq_true _⟩, kl, c1⟩
theorem iniD_one {K : PySem.W.Frag} {v : Value} (h : iniD K true v = true) : ∃ T, v = .ref T ∧ ∃ (to : Value) (td : Option Addr) (its : Array Value) (tn : Nat) (ts : Array (Option Value)), K.lookup T = some ⟨to, td, .seq its tn, ts⟩ ∧ its.size = 1 := by
  cases v with
  | ref T =>
    refine ⟨T, rfl, ?_⟩
    replace h : (match K.lookup T with
      | some ⟨_, _, .seq its _, _⟩ => decide (its.size = 1)
      | _ => false) = true := h
    cases e : K.lookup T with
    | none =>
      rw [e] at h
      cases h
    | some o =>
      rw [e] at h
      obtain ⟨oc, od, dt, sl⟩ := o
      cases dt with
      | seq its n => exact ⟨_, _, _, _, _, rfl, of_decide_eq_true h⟩
      | _ => cases h
  | _ => cases h
theorem badnet_ini {P : Program} {w : World} {K : PySem.W.Frag} {mg : Str → Option Value} {C fI cc : Addr} {dV : Value} (nA : PySem.W.findIn K (.ref C) "at" = some none) (hd : iniD K true dV = true) (EC : PySem.ErrX.ErrC K mg "BadNet" C) (IC : PySem.ErrX.IniC P K mg C fI cc "BadNet.__init__" "part" s_BadNet___init__ dV) : PySem.ErrX.IniOk2 P w K mg C fI := by
  obtain ⟨T, rfl, to, td, its, tn, ts, lT, h1⟩ := iniD_one hd
  refine ⟨IC.iC, IC.tC, fun A R s x t0 v u MO hx hnx hroom fv fu hq => ?_⟩
  refine PySem.ErrX.err_init2 EC IC nA rfl rfl ?_ ?_ rfl rfl MO hx hnx hroom fv fu ?_ hq
  · intro e he
    simp only [List.mem_cons, List.not_mem_nil, or_false] at he
    rcases he with rfl | rfl | rfl | rfl
    · exact .c (by decide)
    · exact .p
    · exact .c (by decide)
    · exact .a
  · decide
  · intro kV doc pm an cda ct
    obtain ⟨l⟩ := its
    match l, h1 with
    | [i0], _ =>
      have hk : ∃ k, bindArgs (PySem.W.ksFn "__init__" "BadNet.__init__" (defArgs s_BadNet___init__) (defBody s_BadNet___init__) (defScope s_BadNet___init__) (.ref T) kV doc pm an (.ref cda) ct cc) ⟨[.ref x, v, u], []⟩ = seqItems? (.ref T) >>= k ∧ k (some [i0].toArray) = pure [(Str.ofString "self", .ref x), ("part", v), ("at", u)] := ⟨_, rfl, rfl⟩
      obtain ⟨k, e1, e2⟩ := hk
      refine BindsTo.of_looks fun M => ?_
      rw [e1]
      exact looks_items MO.kin lT rfl (.of_pure e2)
end E1

namespace E1
open PySem PySem.Spec PyProof.Rows L2

theorem Vals.rev : ∀ {xs : List V} {us : List Value}, Vals xs us → Vals xs.reverse us.reverse
  | _, _, .nil => .nil
  | _, _, .cons r t => by
    rw [List.reverse_cons, List.reverse_cons]
    exact Vals.append (Vals.rev t) (.cons r .nil)
section
variable {P : Program} {w : World} {K : PySem.W.Frag} {mg : Str → Option Value} {base : Heap} {x : Str} {st : Stmt} {f : Addr} {fd : FuncData} {ps ks : List Str} {k n : Nat} {sp : Sp}
/-- a def without defaults: its arguments by keywords alone or behind others -/
theorem Fun.kbn {qual : Str} (F : Fun K x qual st f fd) {g : List Value → List Value → List Value} {gV : List V → List V → List V} (hrel : ∀ {vs : List V} {us : List Value} {zs : List V} {ws : List Value}, Vals vs us → Vals zs ws → Vals (gV vs zs) (g us ws))
    (h : ∀ (kV doc pm : Value) (an : Option Addr) (cdv ct : Value) (us ws : List Value), us.length = n → ws.length = ks.length → bindArgs (PySem.W.fnOf x qual (defArgs st) (defBody st) (defScope st) .none kV doc pm an cdv ct) ⟨us, ks.zip ws⟩ = pure (ps.zip (g us ws))) : KBn K fd ps n ks g gV := by
  rcases F.ex with ⟨_, _, v1, v2, v3, v4, v5, v6, _, same, _, _⟩
  subst same
  exact ⟨fun s us ws _ l1 l2 => .of_eq (h v1 v2 v3 v4 v5 v6 us ws l1 l2), hrel⟩
/-- a def with defaults, all arguments given -/
theorem FunD.kbn {qual : Str} {params : Arguments} {body : List Stmt} {scope : Scope} {dvs : List V} {kws : List (Str × V)} (F : FunD K x qual params body scope dvs kws f fd) (hd : dvs ≠ []) {g : List Value → List Value → List Value} {gV : List V → List V → List V} (hrel : ∀ {vs : List V} {us : List Value} {zs : List V} {ws : List Value}, Vals vs us → Vals zs ws → Vals (gV vs zs) (g us ws))
    (h : ∀ (T : Addr) (kV doc pm : Value) (an : Option Addr) (cdv ct : Value) (us ws its : List Value), us.length = n → ws.length = ks.length → its.length = dvs.length → ∃ k, bindArgs (PySem.W.fnOf x qual params body scope (.ref T) kV doc pm an cdv ct) ⟨us, ks.zip ws⟩ = seqItems? (.ref T) >>= k ∧ k (some its.toArray) = pure (ps.zip (g us ws))) : KBn K fd ps n ks g gV := by
  rcases F.ex with ⟨_, _, _, v1, v2, v3, v4, v5, v6, _, same, _, _, bare | given, _⟩
  · exact absurd bare.1 hd
  · rcases given with ⟨_, T, _, its, _, dv, at_, it, rel⟩
    subst same dv
    refine ⟨fun s us ws inn l1 l2 => BindsTo.of_looks fun M => ?_, hrel⟩
    rcases h T v1 v2 v3 v4 v5 v6 us ws its l1 l2 rel.length.symm with ⟨go, b1, b2⟩
    rw [b1]
    exact looks_items inn at_ it (.of_pure b2)
end

theorem fun_of {K : PySem.W.Frag} {x qual : Str} {st : Stmt} {f : Addr} {fd : FuncData} (F : FunD K x qual (defArgs st) (defBody st) (defScope st) [] [] f fd) : Fun K x qual st f fd := by
  obtain ⟨oc, od, dV, kV, doc, pm, an, cdv, ct, osl, e, lk, hcd, hd, _⟩ := F.ex
  rcases hd with ⟨_, rfl⟩ | ⟨n, _⟩
  · exact ⟨⟨oc, od, kV, doc, pm, an, cdv, ct, osl, e, lk, hcd⟩, F.kp⟩
  · exact absurd rfl n
theorem ex_at {l : List Bool} (h : (l.all id) = true) {i : Nat} {b : Bool} (e : l[i]? = some b) : b = true := List.all_eq_true.mp h b (List.mem_of_getElem? e)
theorem val_int {K : PySem.W.Frag} {a : Addr} {kvs : List (Str × He.Dv)} (h : He.valsB K a kvs = true) {i : Nat} {k : Str} {v : Int} (e : kvs[i]? = some (k, .int v)) : ∃ t, PySem.W.nsIn K a k = some (some (.int v t)) := by
  obtain ⟨u, e1, r⟩ := He.valsB_ok h (List.mem_of_getElem? e)
  obtain ⟨t, rfl⟩ := r
  exact ⟨t, e1⟩
/-- the head's facts, of these addresses -/
abbrev AlY : Type := He.AlT × Bool × List IniV
def obsY (as : List Addr) (fa : List He.Fa) (fn : List He.DefD) (ts : List He.Tab) (ex : PySem.W.Frag → Bool) (er : List ErrD) (g : Addr → Option Obj) : AlY := (He.obsT fa fn ts (He.frG g as), ex (He.frG g as), er.map fun d => iniW (He.frG g as) d.x)
structure SaysY (fa : List He.Fa) (fn : List He.DefD) (ts : List He.Tab) (ex : PySem.W.Frag → Bool) (er : List ErrD) (w : World) (K : PySem.W.Frag) : Prop where
  t : He.SaysT fa fn ts w K
  more : ex K = true
  ini : (er.map fun d => iniW K d.x) = er.map ErrD.val
def hookY (as : List Addr) (fa : List He.Fa) (fn : List He.DefD) (ts : List He.Tab) (ex : PySem.W.Frag → Bool) (er : List ErrD) : PySem.W.Hook where
  α := AlY
  obs := fun s => obsY as fa fn ts ex er s.heap.get?
  val := fun w => (He.valT fn ts w, true, er.map ErrD.val)
  says := fun w h => ∃ K : PySem.W.Frag, K.In h ∧ SaysY fa fn ts ex er w K
  of := fun _ _ e => ⟨_, He.frG_in, congrArg (fun z : AlY => z.1) e, congrArg (fun z : AlY => z.2.1) e, congrArg (fun z : AlY => z.2.2) e⟩
  keeps := fun _ _ _ ⟨K, hK, c⟩ k => ⟨K, PySem.W.Frag.In.keeps hK k, c⟩
theorem obsY_eq {as : List Addr} {fa : List He.Fa} {fn : List He.DefD} {ts : List He.Tab} {ex : PySem.W.Frag → Bool} {er : List ErrD} {g : Addr → Option Obj} {s : Shared} (h : ∀ a, g a = s.heap.get? a) : obsY as fa fn ts ex er g = (hookY as fa fn ts ex er).obs s := by
  have e : g = s.heap.get? := funext h
  rw [e]
  rfl
theorem ini_at {K : PySem.W.Frag} {er : List ErrD} (h : (er.map fun d => iniW K d.x) = er.map ErrD.val) {i : Nat} {d : ErrD} (e : er[i]? = some d) : iniW K d.x = d.val := by
  have h2 : (er.map fun d => iniW K d.x)[i]? = (er.map ErrD.val)[i]? := by rw [h]
  rw [List.getElem?_map, List.getElem?_map, e] at h2
  exact Option.some.inj h2
def dd_is_whole : He.DefD := ⟨("is_whole", none), "is_whole", "is_whole", defArgs s_is_whole, defBody s_is_whole, defScope s_is_whole, [], []⟩
def dd_downward : He.DefD := ⟨("downward", none), "downward", "downward", defArgs s_downward, defBody s_downward, defScope s_downward, [], []⟩
def dd_upward : He.DefD := ⟨("upward", none), "upward", "upward", defArgs s_upward, defBody s_upward, defScope s_upward, [], []⟩
def dd_inward : He.DefD := ⟨("inward", none), "inward", "inward", defArgs s_inward, defBody s_inward, defScope s_inward, [], []⟩
def dd_outward : He.DefD := ⟨("outward", none), "outward", "outward", defArgs s_outward, defBody s_outward, defScope s_outward, [], []⟩
def dd_nearest_greater : He.DefD := ⟨("nearest_greater", none), "nearest_greater", "nearest_greater", defArgs s_nearest_greater, defBody s_nearest_greater, defScope s_nearest_greater, [], []⟩
def dd_nearest_even : He.DefD := ⟨("nearest_even", none), "nearest_even", "nearest_even", defArgs s_nearest_even, defBody s_nearest_even, defScope s_nearest_even, [], []⟩
def dd_nearest_far : He.DefD := ⟨("nearest_far", none), "nearest_far", "nearest_far", defArgs s_nearest_far, defBody s_nearest_far, defScope s_nearest_far, [], []⟩
def dd_is_manner : He.DefD := ⟨("is_manner", none), "is_manner", "is_manner", defArgs s_is_manner, defBody s_is_manner, defScope s_is_manner, [], []⟩
def dd_rounded : He.DefD := ⟨("rounded", none), "rounded", "rounded", defArgs s_rounded, defBody s_rounded, defScope s_rounded, [.str "half"], []⟩
def dd_is_width : He.DefD := ⟨("is_width", none), "is_width", "is_width", defArgs s_is_width, defBody s_is_width, defScope s_is_width, [], []⟩
def dd_is_point : He.DefD := ⟨("is_point", none), "is_point", "is_point", defArgs s_is_point, defBody s_is_point, defScope s_is_point, [], []⟩
def dd_is_ends : He.DefD := ⟨("is_ends", none), "is_ends", "is_ends", defArgs s_is_ends, defBody s_is_ends, defScope s_is_ends, [], []⟩
def dd_is_place : He.DefD := ⟨("is_place", none), "is_place", "is_place", defArgs s_is_place, defBody s_is_place, defScope s_is_place, [], []⟩
def dd_is_factor : He.DefD := ⟨("is_factor", none), "is_factor", "is_factor", defArgs s_is_factor, defBody s_is_factor, defScope s_is_factor, [], []⟩
def dd_in_point : He.DefD := ⟨("in_point", none), "in_point", "in_point", defArgs s_in_point, defBody s_in_point, defScope s_in_point, [], []⟩
def dd_old_point : He.DefD := ⟨("old_point", none), "old_point", "old_point", defArgs s_old_point, defBody s_old_point, defScope s_old_point, [], []⟩
def dd_times_point : He.DefD := ⟨("times_point", none), "times_point", "times_point", defArgs s_times_point, defBody s_times_point, defScope s_times_point, [], []⟩
def dd_sum_point : He.DefD := ⟨("sum_point", none), "sum_point", "sum_point", defArgs s_sum_point, defBody s_sum_point, defScope s_sum_point, [], []⟩
def dd_move_point : He.DefD := ⟨("move_point", none), "move_point", "move_point", defArgs s_move_point, defBody s_move_point, defScope s_move_point, [], []⟩
def dd_keep_point : He.DefD := ⟨("keep_point", none), "keep_point", "keep_point", defArgs s_keep_point, defBody s_keep_point, defScope s_keep_point, [], []⟩
def dd_is_written_as_row : He.DefD := ⟨("is_written_as_row", none), "is_written_as_row", "is_written_as_row", defArgs s_is_written_as_row, defBody s_is_written_as_row, defScope s_is_written_as_row, [], []⟩
def dd_row_point : He.DefD := ⟨("row_point", none), "row_point", "row_point", defArgs s_row_point, defBody s_row_point, defScope s_row_point, [], []⟩
def dd_check_length : He.DefD := ⟨("check_length", none), "check_length", "check_length", defArgs s_check_length, defBody s_check_length, defScope s_check_length, [], []⟩
def dd_check_forms : He.DefD := ⟨("check_forms", none), "check_forms", "check_forms", defArgs s_check_forms, defBody s_check_forms, defScope s_check_forms, [], []⟩
def dd_is_hold : He.DefD := ⟨("is_hold", none), "is_hold", "is_hold", defArgs s_is_hold, defBody s_is_hold, defScope s_is_hold, [], []⟩
def dd_check_holds : He.DefD := ⟨("check_holds", none), "check_holds", "check_holds", defArgs s_check_holds, defBody s_check_holds, defScope s_check_holds, [], []⟩
def dd_checked_points : He.DefD := ⟨("checked_points", none), "checked_points", "checked_points", defArgs s_checked_points, defBody s_checked_points, defScope s_checked_points, [], []⟩
def dd_check_links : He.DefD := ⟨("check_links", none), "check_links", "check_links", defArgs s_check_links, defBody s_check_links, defScope s_check_links, [], []⟩
def dd_enter_form : He.DefD := ⟨("enter_form", none), "enter_form", "enter_form", defArgs s_enter_form, defBody s_enter_form, defScope s_enter_form, [], []⟩
def dd_swept : He.DefD := ⟨("swept", none), "swept", "swept", defArgs s_swept, defBody s_swept, defScope s_swept, [], []⟩
def dd_renumbered : He.DefD := ⟨("renumbered", none), "renumbered", "renumbered", defArgs s_renumbered, defBody s_renumbered, defScope s_renumbered, [], []⟩
def dd_spelled : He.DefD := ⟨("spelled", none), "spelled", "spelled", defArgs s_spelled, defBody s_spelled, defScope s_spelled, [], []⟩
def dd_put_times : He.DefD := ⟨("put_times", none), "put_times", "put_times", defArgs s_put_times, defBody s_put_times, defScope s_put_times, [], []⟩
def dd_without_times : He.DefD := ⟨("without_times", none), "without_times", "without_times", defArgs s_without_times, defBody s_without_times, defScope s_without_times, [], []⟩
def dd_is_state : He.DefD := ⟨("is_state", none), "is_state", "is_state", defArgs s_is_state, defBody s_is_state, defScope s_is_state, [], []⟩
def dd_check_state : He.DefD := ⟨("check_state", none), "check_state", "check_state", defArgs s_check_state, defBody s_check_state, defScope s_check_state, [], []⟩
def dd_check_word : He.DefD := ⟨("check_word", none), "check_word", "check_word", defArgs s_check_word, defBody s_check_word, defScope s_check_word, [], []⟩
def dd_sum_number : He.DefD := ⟨("sum_number", none), "sum_number", "sum_number", defArgs s_sum_number, defBody s_sum_number, defScope s_sum_number, [], []⟩
def dd_number_of_row : He.DefD := ⟨("number_of_row", none), "number_of_row", "number_of_row", defArgs s_number_of_row, defBody s_number_of_row, defScope s_number_of_row, [], []⟩
def dd_state_behind : He.DefD := ⟨("state_behind", none), "state_behind", "state_behind", defArgs s_state_behind, defBody s_state_behind, defScope s_state_behind, [], []⟩
def dd_turn_of : He.DefD := ⟨("turn_of", none), "turn_of", "turn_of", defArgs s_turn_of, defBody s_turn_of, defScope s_turn_of, [], []⟩
def dd_turned : He.DefD := ⟨("turned", none), "turned", "turned", defArgs s_turned, defBody s_turned, defScope s_turned, [], []⟩
def dd__law_cell_at : He.DefD := ⟨("_law_cell_at", none), "_law_cell_at", "_law_cell_at", defArgs s__law_cell_at, defBody s__law_cell_at, defScope s__law_cell_at, [], []⟩
def dd__law_well : He.DefD := ⟨("_law_well", none), "_law_well", "_law_well", defArgs s__law_well, defBody s__law_well, defScope s__law_well, [], []⟩
def dd__law_draw : He.DefD := ⟨("_law_draw", none), "_law_draw", "_law_draw", defArgs s__law_draw, defBody s__law_draw, defScope s__law_draw, [], []⟩
def dd__law_form : He.DefD := ⟨("_law_form", none), "_law_form", "_law_form", defArgs s__law_form, defBody s__law_form, defScope s__law_form, [], []⟩
def dd__law_word : He.DefD := ⟨("_law_word", none), "_law_word", "_law_word", defArgs s__law_word, defBody s__law_word, defScope s__law_word, [], []⟩
def dd__law_coefficient : He.DefD := ⟨("_law_coefficient", none), "_law_coefficient", "_law_coefficient", defArgs s__law_coefficient, defBody s__law_coefficient, defScope s__law_coefficient, [], []⟩
def dd__law_leaf : He.DefD := ⟨("_law_leaf", none), "_law_leaf", "_law_leaf", defArgs s__law_leaf, defBody s__law_leaf, defScope s__law_leaf, [], []⟩
def dd__law_begun : He.DefD := ⟨("_law_begun", none), "_law_begun", "_law_begun", defArgs s__law_begun, defBody s__law_begun, defScope s__law_begun, [], []⟩
def dd__law_point : He.DefD := ⟨("_law_point", none), "_law_point", "_law_point", defArgs s__law_point, defBody s__law_point, defScope s__law_point, [], []⟩
def dd__law_one_more : He.DefD := ⟨("_law_one_more", none), "_law_one_more", "_law_one_more", defArgs s__law_one_more, defBody s__law_one_more, defScope s__law_one_more, [], []⟩
def dd__law_filled : He.DefD := ⟨("_law_filled", none), "_law_filled", "_law_filled", defArgs s__law_filled, defBody s__law_filled, defScope s__law_filled, [], []⟩
def dd__law_links : He.DefD := ⟨("_law_links", none), "_law_links", "_law_links", defArgs s__law_links, defBody s__law_links, defScope s__law_links, [], []⟩
def dd__law_built_of : He.DefD := ⟨("_law_built_of", none), "_law_built_of", "_law_built_of", defArgs s__law_built_of, defBody s__law_built_of, defScope s__law_built_of, [], []⟩
def dd__law_net : He.DefD := ⟨("_law_net", none), "_law_net", "_law_net", defArgs s__law_net, defBody s__law_net, defScope s__law_net, [], []⟩
def dd__law_made : He.DefD := ⟨("_law_made", none), "_law_made", "_law_made", defArgs s__law_made, defBody s__law_made, defScope s__law_made, [], []⟩
def dd__law_spelled : He.DefD := ⟨("_law_spelled", none), "_law_spelled", "_law_spelled", defArgs s__law_spelled, defBody s__law_spelled, defScope s__law_spelled, [], []⟩
def dd__law_again : He.DefD := ⟨("_law_again", none), "_law_again", "_law_again", defArgs s__law_again, defBody s__law_again, defScope s__law_again, [], []⟩
def dd__law_due : He.DefD := ⟨("_law_due", none), "_law_due", "_law_due", defArgs s__law_due, defBody s__law_due, defScope s__law_due, [], []⟩
def dd__law_amiss : He.DefD := ⟨("_law_amiss", none), "_law_amiss", "_law_amiss", defArgs s__law_amiss, defBody s__law_amiss, defScope s__law_amiss, [], []⟩
def dd__law_worth_alike : He.DefD := ⟨("_law_worth_alike", none), "_law_worth_alike", "_law_worth_alike", defArgs s__law_worth_alike, defBody s__law_worth_alike, defScope s__law_worth_alike, [], []⟩
def dd__law_same : He.DefD := ⟨("_law_same", none), "_law_same", "_law_same", defArgs s__law_same, defBody s__law_same, defScope s__law_same, [], []⟩
def dd__law_refused : He.DefD := ⟨("_law_refused", none), "_law_refused", "_law_refused", defArgs s__law_refused, defBody s__law_refused, defScope s__law_refused, [], []⟩
def dd__law_right : He.DefD := ⟨("_law_right", none), "_law_right", "_law_right", defArgs s__law_right, defBody s__law_right, defScope s__law_right, [], []⟩
def dd_law : He.DefD := ⟨("law", none), "law", "law", defArgs s_law, defBody s_law, defScope s_law, [], []⟩
def dd_Form_least : He.DefD := ⟨("Form", some "least"), "least", "Form.least", defArgs s_Form_least, defBody s_Form_least, defScope s_Form_least, [], []⟩
def dd_Form_greatest : He.DefD := ⟨("Form", some "greatest"), "greatest", "Form.greatest", defArgs s_Form_greatest, defBody s_Form_greatest, defScope s_Form_greatest, [], []⟩
def dd_Form_has : He.DefD := ⟨("Form", some "has"), "has", "Form.has", defArgs s_Form_has, defBody s_Form_has, defScope s_Form_has, [], []⟩
def dd_Form_word_for : He.DefD := ⟨("Form", some "word_for"), "word_for", "Form.word_for", defArgs s_Form_word_for, defBody s_Form_word_for, defScope s_Form_word_for, [], []⟩
def dd_Form_ended : He.DefD := ⟨("Form", some "ended"), "ended", "Form.ended", defArgs s_Form_ended, defBody s_Form_ended, defScope s_Form_ended, [], []⟩
def dd_Form_kept_at : He.DefD := ⟨("Form", some "kept_at"), "kept_at", "Form.kept_at", defArgs s_Form_kept_at, defBody s_Form_kept_at, defScope s_Form_kept_at, [], []⟩
def dd_Form___eq__ : He.DefD := ⟨("Form", some "__eq__"), "__eq__", "Form.__eq__", defArgs s_Form___eq__, defBody s_Form___eq__, defScope s_Form___eq__, [], []⟩
def dd_Net_forms : He.DefD := ⟨("Net", some "forms"), "forms", "Net.forms", defArgs s_Net_forms, defBody s_Net_forms, defScope s_Net_forms, [], []⟩
def dd_Net_rows : He.DefD := ⟨("Net", some "rows"), "rows", "Net.rows", defArgs s_Net_rows, defBody s_Net_rows, defScope s_Net_rows, [], []⟩
def dd_Net_holds : He.DefD := ⟨("Net", some "holds"), "holds", "Net.holds", defArgs s_Net_holds, defBody s_Net_holds, defScope s_Net_holds, [], []⟩
def dd_Net_points : He.DefD := ⟨("Net", some "points"), "points", "Net.points", defArgs s_Net_points, defBody s_Net_points, defScope s_Net_points, [], []⟩
def dd_Net_enters : He.DefD := ⟨("Net", some "enters"), "enters", "Net.enters", defArgs s_Net_enters, defBody s_Net_enters, defScope s_Net_enters, [], []⟩
def dd_Net_out : He.DefD := ⟨("Net", some "out"), "out", "Net.out", defArgs s_Net_out, defBody s_Net_out, defScope s_Net_out, [], []⟩
def dd_Net___eq__ : He.DefD := ⟨("Net", some "__eq__"), "__eq__", "Net.__eq__", defArgs s_Net___eq__, defBody s_Net___eq__, defScope s_Net___eq__, [], []⟩
def dd_Net___init__ : He.DefD := ⟨("Net", some "__init__"), "__init__", "Net.__init__", defArgs s_Net___init__, defBody s_Net___init__, defScope s_Net___init__, [], []⟩
def ed_CB : ErrD := ⟨"BadNet", "BadNet.__init__", defArgs s_BadNet___init__, defBody s_BadNet___init__, defScope s_BadNet___init__, true⟩
def dd_Form___init__ : He.DefD := ⟨("Form", some "__init__"), "__init__", "Form.__init__", defArgs s_Form___init__, defBody s_Form___init__, defScope s_Form___init__, [.non, .int 0, .str "half", .str "wrap"], []⟩
def FN_0 : List He.DefD := [dd_is_whole, dd_downward, dd_upward, dd_inward, dd_outward, dd_nearest_greater, dd_nearest_even, dd_nearest_far, dd_is_manner, dd_rounded, dd_is_width, dd_is_point, dd_is_ends, dd_is_place, dd_is_factor, dd_in_point, dd_old_point, dd_times_point, dd_sum_point, dd_move_point]
def FN_1 : List He.DefD := [dd_keep_point, dd_is_written_as_row, dd_row_point, dd_check_length, dd_check_forms, dd_is_hold, dd_check_holds, dd_checked_points, dd_check_links, dd_enter_form, dd_swept, dd_renumbered, dd_spelled, dd_put_times, dd_without_times, dd_is_state, dd_check_state, dd_check_word, dd_sum_number, dd_number_of_row]
def FN_2 : List He.DefD := [dd_state_behind, dd_turn_of, dd_turned, dd__law_cell_at, dd__law_well, dd__law_draw, dd__law_form, dd__law_word, dd__law_coefficient, dd__law_leaf, dd__law_begun, dd__law_point, dd__law_one_more, dd__law_filled, dd__law_links, dd__law_built_of, dd__law_net, dd__law_made, dd__law_spelled, dd__law_again]
def FN_3 : List He.DefD := [dd__law_due, dd__law_amiss, dd__law_worth_alike, dd__law_same, dd__law_refused, dd__law_right, dd_law, dd_Form_least, dd_Form_greatest, dd_Form_has, dd_Form_word_for, dd_Form_ended, dd_Form_kept_at, dd_Form___eq__, dd_Net_forms, dd_Net_rows, dd_Net_holds, dd_Net_points, dd_Net_enters, dd_Net_out]
def FN_4 : List He.DefD := [dd_Net___eq__, dd_Net___init__, dd_Form___init__]
def FN : List He.DefD := FN_0 ++ (FN_1 ++ (FN_2 ++ (FN_3 ++ (FN_4))))
def FA_0 : List He.Fa := [.glo "is_whole", .glo "downward", .glo "upward", .glo "inward", .glo "outward", .glo "nearest_greater", .glo "nearest_even", .glo "nearest_far", .glo "is_manner", .glo "rounded", .glo "is_width", .glo "is_point", .glo "is_ends", .glo "is_place", .glo "is_factor", .glo "in_point", .glo "old_point", .glo "times_point", .glo "sum_point", .glo "move_point"]
def FA_1 : List He.Fa := [.glo "keep_point", .glo "is_written_as_row", .glo "row_point", .glo "check_length", .glo "check_forms", .glo "is_hold", .glo "check_holds", .glo "checked_points", .glo "check_links", .glo "enter_form", .glo "swept", .glo "renumbered", .glo "spelled", .glo "put_times", .glo "without_times", .glo "is_state", .glo "check_state", .glo "check_word", .glo "sum_number", .glo "number_of_row"]
def FA_2 : List He.Fa := [.glo "state_behind", .glo "turn_of", .glo "turned", .glo "_law_cell_at", .glo "_law_well", .glo "_law_draw", .glo "_law_form", .glo "_law_word", .glo "_law_coefficient", .glo "_law_leaf", .glo "_law_begun", .glo "_law_point", .glo "_law_one_more", .glo "_law_filled", .glo "_law_links", .glo "_law_built_of", .glo "_law_net", .glo "_law_made", .glo "_law_spelled", .glo "_law_again"]
def FA_3 : List He.Fa := [.glo "_law_due", .glo "_law_amiss", .glo "_law_worth_alike", .glo "_law_same", .glo "_law_refused", .glo "_law_right", .glo "law", .glo "Form", .cls "Form", .mkr "Form", .noat "Form" "width", .noat "Form" "point", .noat "Form" "manner", .noat "Form" "ends", .glo "Net", .cls "Net", .mkr "Net", .noat "Net" "form_list", .noat "Net" "enters_at", .noat "Net" "row_list"]
def FA_4 : List He.Fa := [.noat "Net" "hold_list", .noat "Net" "out_at", .noat "Net" "point_list", .meth "Form" "least", .meth "Form" "greatest", .meth "Form" "has", .meth "Form" "word_for", .meth "Form" "ended", .meth "Form" "kept_at", .meth "Form" "__eq__", .meth "Net" "forms", .meth "Net" "rows", .meth "Net" "holds", .meth "Net" "points", .meth "Net" "enters", .meth "Net" "out", .meth "Net" "__eq__", .meth "Net" "__init__", .glo "EchoError", .glo "BadNet"]
def FA_5 : List He.Fa := [.meth "Form" "__init__", .int "LEAST_WIDTH" 2, .int "GREATEST_WIDTH" 64, .int "GREATEST_POINT" 64, .int "MOST_FORMS" 12, .int "MOST_ROWS" 60, .int "MOST_HOLDS" 6, .int "FACTOR_END" 9223372036854775808, .int "GREATEST_SHIFT" 64, .int "GREATEST_ROW_POINT" 200, .glo "ENDS", .glo "MANNERS", .glo "POINT_RULES", .glo "ROW_LENGTHS", .free "isinstance", .free "int", .free "bool", .free "abs", .free "str", .free "len"]
def FA_6 : List He.Fa := [.free "max", .free "tuple", .free "list", .free "enumerate", .free "range", .free "all", .free "zip", .free "min"]
def FA : List He.Fa := FA_0 ++ (FA_1 ++ (FA_2 ++ (FA_3 ++ (FA_4 ++ (FA_5 ++ (FA_6))))))
def TS_0 : List He.Tab := [(fun K => He.ga K "MANNERS", ["down", "up", "in", "out", "half", "even", "far"]), (fun K => He.ga K "POINT_RULES", ["in", "old", "times", "plus", "less", "move", "keep"]), (fun K => He.ga K "ROW_LENGTHS", ["in", "old", "times", "plus", "less", "move", "keep"])]
def TS : List He.Tab := TS_0
def EXL_0 (K : PySem.W.Frag) : List Bool := [decide (PySem.W.excInitIn K (He.ga K "BadNet") PySem.ErrX.bmA "ArithmeticError.__new__" = true), decide (PySem.W.excOver K (He.ga K "BadNet") PySem.ErrX.bmA = true), decide (PySem.W.findIn K (.ref (He.ga K "BadNet")) "__setattr__" = some (some (.builtin "object.__setattr__"))), decide (PySem.W.findIn K (.ref (He.ga K "BadNet")) "__getattribute__" = some (some (.builtin "BaseException.__getattribute__"))), decide (PySem.W.findIn K (.ref (He.ga K "BadNet")) "__getattr__" = some none), decide (PySem.W.keepIn K (.ref (He.ga K "BadNet")) = true), decide (PySem.W.subIn K (.ref (He.ga K "BadNet")) (.type "BaseException") = some true), decide (PySem.W.typeIn K (.ref (He.ga K "BadNet")) = some (.type "type")), decide (PySem.W.hasDictIn K (He.ga K "BadNet") = true), decide (PySem.W.findIn K (.ref (He.ga K "BadNet")) "__class__" = some (some (.builtin "object.__class__"))), decide (PySem.W.specialIn K (.builtin "object.__class__") "__get__" = some (some (.builtin "getset_descriptor.__get__"))), decide (PySem.W.takesIn K (.builtin "object.__class__") = some true), decide (PySem.W.mroIn K (He.ga K "BadNet") (.type "object") = some true), decide (PySem.W.findIn K (.ref (He.ga K "BadNet")) "__init__" = some (some (.ref (iniA K "BadNet")))), decide (PySem.W.typeIn K (.ref (iniA K "BadNet")) = some (.type "function")), decide (PySem.W.findIn K (.ref (He.ga K "BadNet")) "part" = some none), decide (PySem.W.ks_superIn K (He.ga K "BadNet") (He.ga K "BadNet") "__init__" = some (some (.builtin "ArithmeticError.__init__"))), decide (PySem.W.subIn K (.ref (He.ga K "BadNet")) (.type "ArithmeticError") = some true), decide (PySem.W.mroIn K (He.ga K "BadNet") (.ref (He.ga K "BadNet")) = some true), decide (PySem.W.nsIn K cStatics "thirdparty.any" = some none)]
def EXL_1 (K : PySem.W.Frag) : List Bool := [decide (PySem.W.nsIn K mainGlobals "super" = some none), ed_CB.ok K, decide (PySem.W.exmOne K (.ref (He.ga K "BadNet")) (.ref (He.ga K "BadNet")) = some true), decide (PySem.W.kitOne K (.ref (He.ga K "BadNet")) (.ref (He.ga K "EchoError")) = some true), decide (PySem.W.findIn K (.ref (He.ga K "BadNet")) "at" = some none), He.tupB K "ENDS" [.str "wrap", .str "stop"], decide (PySem.W.nsIn K (He.ga K "MANNERS") "down" = some (some (.ref (He.ga K "downward")))), decide (PySem.W.nsIn K (He.ga K "MANNERS") "up" = some (some (.ref (He.ga K "upward")))), decide (PySem.W.nsIn K (He.ga K "MANNERS") "in" = some (some (.ref (He.ga K "inward")))), decide (PySem.W.nsIn K (He.ga K "MANNERS") "out" = some (some (.ref (He.ga K "outward")))), decide (PySem.W.nsIn K (He.ga K "MANNERS") "half" = some (some (.ref (He.ga K "nearest_greater")))), decide (PySem.W.nsIn K (He.ga K "MANNERS") "even" = some (some (.ref (He.ga K "nearest_even")))), decide (PySem.W.nsIn K (He.ga K "MANNERS") "far" = some (some (.ref (He.ga K "nearest_far")))), decide (PySem.W.nsIn K (He.ga K "POINT_RULES") "in" = some (some (.ref (He.ga K "in_point")))), decide (PySem.W.nsIn K (He.ga K "POINT_RULES") "old" = some (some (.ref (He.ga K "old_point")))), decide (PySem.W.nsIn K (He.ga K "POINT_RULES") "times" = some (some (.ref (He.ga K "times_point")))), decide (PySem.W.nsIn K (He.ga K "POINT_RULES") "plus" = some (some (.ref (He.ga K "sum_point")))), decide (PySem.W.nsIn K (He.ga K "POINT_RULES") "less" = some (some (.ref (He.ga K "sum_point")))), decide (PySem.W.nsIn K (He.ga K "POINT_RULES") "move" = some (some (.ref (He.ga K "move_point")))), decide (PySem.W.nsIn K (He.ga K "POINT_RULES") "keep" = some (some (.ref (He.ga K "keep_point"))))]
def EXL_2 (K : PySem.W.Frag) : List Bool := [He.valsB K (He.ga K "ROW_LENGTHS") [("in", .int 1), ("old", .int 2), ("times", .int 4), ("plus", .int 3), ("less", .int 3), ("move", .int 3), ("keep", .int 3)], decide (PySem.W.findIn K (.ref (He.ga K "Form")) "__class__" = some (some (.builtin "object.__class__"))), decide (PySem.W.specialIn K (.builtin "object.__class__") "__get__" = some (some (.builtin "getset_descriptor.__get__"))), decide (PySem.W.takesIn K (.builtin "object.__class__") = some true), decide (PySem.W.mroIn K (He.ga K "Form") (.type "object") = some true), decide (PySem.W.kitOne K (.ref (He.ga K "Form")) (.ref (He.ga K "Form")) = some true), decide (PySem.W.findIn K (.ref (He.ga K "Net")) "__class__" = some (some (.builtin "object.__class__"))), decide (PySem.W.mroIn K (He.ga K "Net") (.type "object") = some true), decide (PySem.W.kitOne K (.ref (He.ga K "Net")) (.ref (He.ga K "Net")) = some true)]
def EXL (K : PySem.W.Frag) : List Bool := EXL_0 K ++ (EXL_1 K ++ (EXL_2 K))
def EXB (K : PySem.W.Frag) : Bool := (EXL K).all id
def ER_0 : List ErrD := [ed_CB]
def ER : List ErrD := ER_0
end E1

namespace HX
open PySem PySem.W PySem.Calls PyProof.Rows
abbrev RR : OpenRow := OpenLaw.row PySem.Challenge.rw_echobound_k38_the_same_without_times
abbrev qv : Program := view RR.prog [102]
def names_0 : List PySem.Str := [("_wall" : PySem.Str), ("__name__" : PySem.Str), ("EchoError" : PySem.Str), ("NoFraction" : PySem.Str), ("BadState" : PySem.Str), ("BadForm" : PySem.Str), ("Unfit" : PySem.Str), ("BadNet" : PySem.Str), ("GREATEST_POWER" : PySem.Str), ("is_whole" : PySem.Str), ("shared_divisor" : PySem.Str), ("lowest" : PySem.Str), ("times" : PySem.Str), ("divided" : PySem.Str), ("two_to" : PySem.Str), ("downward" : PySem.Str), ("upward" : PySem.Str), ("inward" : PySem.Str), ("outward" : PySem.Str), ("nearest_greater" : PySem.Str)]
def names_1 : List PySem.Str := [("nearest_even" : PySem.Str), ("nearest_far" : PySem.Str), ("MANNERS" : PySem.Str), ("is_manner" : PySem.Str), ("rounded" : PySem.Str), ("LEAST_WIDTH" : PySem.Str), ("GREATEST_WIDTH" : PySem.Str), ("GREATEST_POINT" : PySem.Str), ("ENDS" : PySem.Str), ("is_width" : PySem.Str), ("is_point" : PySem.Str), ("is_ends" : PySem.Str), ("Form" : PySem.Str), ("MOST_FORMS" : PySem.Str), ("MOST_ROWS" : PySem.Str), ("MOST_HOLDS" : PySem.Str), ("FACTOR_END" : PySem.Str), ("GREATEST_SHIFT" : PySem.Str), ("GREATEST_ROW_POINT" : PySem.Str), ("ROW_LENGTHS" : PySem.Str)]
def names_2 : List PySem.Str := [("is_place" : PySem.Str), ("is_factor" : PySem.Str), ("in_point" : PySem.Str), ("old_point" : PySem.Str), ("times_point" : PySem.Str), ("sum_point" : PySem.Str), ("move_point" : PySem.Str), ("keep_point" : PySem.Str), ("POINT_RULES" : PySem.Str), ("is_written_as_row" : PySem.Str), ("row_point" : PySem.Str), ("check_length" : PySem.Str), ("check_forms" : PySem.Str), ("is_hold" : PySem.Str), ("check_holds" : PySem.Str), ("checked_points" : PySem.Str), ("check_links" : PySem.Str), ("Net" : PySem.Str), ("enter_form" : PySem.Str), ("swept" : PySem.Str)]
def names_3 : List PySem.Str := [("renumbered" : PySem.Str), ("spelled" : PySem.Str), ("put_times" : PySem.Str), ("without_times" : PySem.Str), ("is_state" : PySem.Str), ("check_state" : PySem.Str), ("check_word" : PySem.Str), ("sum_number" : PySem.Str), ("number_of_row" : PySem.Str), ("state_behind" : PySem.Str), ("turn_of" : PySem.Str), ("turned" : PySem.Str), ("_law_cell_at" : PySem.Str), ("_law_well" : PySem.Str), ("_law_draw" : PySem.Str), ("_law_form" : PySem.Str), ("_law_word" : PySem.Str), ("_law_coefficient" : PySem.Str), ("_law_leaf" : PySem.Str), ("_law_begun" : PySem.Str)]
def names_4 : List PySem.Str := [("_law_point" : PySem.Str), ("_law_one_more" : PySem.Str), ("_law_filled" : PySem.Str), ("_law_links" : PySem.Str), ("_law_built_of" : PySem.Str), ("_law_net" : PySem.Str), ("_law_made" : PySem.Str), ("_law_spelled" : PySem.Str), ("_law_again" : PySem.Str), ("_law_due" : PySem.Str), ("_law_amiss" : PySem.Str), ("_law_worth_alike" : PySem.Str), ("_law_same" : PySem.Str), ("_law_refused" : PySem.Str), ("_law_right" : PySem.Str)]
def names : List PySem.Str := names_0 ++ (names_1 ++ (names_2 ++ (names_3 ++ (names_4))))
def AS_0 : List Addr := [3, 6, 4, 21, 31, 44, 56, 77, 99, 121, 130, 137, 144, 151, 158, 165, 172, 179, 186, 193, 200, 207, 214, 215, 222, 230, 231, 238, 245, 252]
def AS_1 : List Addr := [389, 394, 401, 408, 415, 422, 429, 436, 443, 450, 451, 458, 465, 472, 479, 486, 493, 500, 507, 606, 617, 624, 631, 638, 645, 650, 655, 662, 669, 676]
def AS_2 : List Addr := [683, 688, 695, 702, 709, 716, 723, 730, 737, 744, 751, 756, 763, 770, 777, 782, 789, 794, 799, 806, 813, 820, 827, 834, 841, 848, 853, 858, 0, 20]
def AS_3 : List Addr := [30, 43, 55, 76, 98, 120, 129, 136, 143, 150, 157, 164, 171, 178, 185, 192, 199, 206, 213, 221, 229, 223, 237, 244, 251, 388, 400, 407, 414, 421]
def AS_4 : List Addr := [428, 435, 442, 449, 457, 464, 471, 478, 485, 492, 499, 506, 605, 616, 623, 630, 637, 644, 649, 654, 661, 668, 675, 682, 687, 694, 701, 708, 715, 722]
def AS_5 : List Addr := [729, 736, 743, 750, 755, 762, 769, 776, 781, 788, 793, 798, 805, 812, 819, 826, 833, 840, 847, 852, 857, 19, 74, 96, 118, 128, 135, 142, 149, 156]
def AS_6 : List Addr := [163, 170, 177, 184, 191, 198, 205, 212, 220, 228, 236, 243, 250, 267, 274, 281, 288, 295, 302, 309, 316, 323, 330, 337, 344, 351, 358, 365, 372, 379]
def AS_7 : List Addr := [386, 399, 406, 413, 420, 427, 434, 441, 448, 456, 463, 470, 477, 484, 491, 498, 505, 519, 526, 533, 540, 547, 554, 561, 568, 575, 582, 589, 596, 603]
def AS_8 : List Addr := [615, 622, 629, 636, 643, 648, 653, 660, 667, 674, 681, 686, 693, 700, 707, 714, 721, 728, 735, 742, 749, 754, 761, 768, 775, 780, 787, 792, 797, 804]
def AS_9 : List Addr := [811, 818, 825, 832, 839, 846, 851, 856, 73, 95, 88, 117, 110, 266, 260, 273, 280, 287, 294, 301, 308, 315, 322, 329, 336, 343, 350, 357, 364, 371]
def AS_10 : List Addr := [378, 385, 518, 525, 532, 539, 546, 553, 560, 567, 574, 581, 588, 595, 602, 72, 94, 116, 265, 272, 279, 286, 293, 300, 307, 314, 321, 328, 335, 342]
def AS_11 : List Addr := [349, 356, 363, 370, 377, 384, 517, 524, 531, 538, 545, 552, 559, 566, 573, 580, 587, 594, 601, 62, 83, 105, 2]
def AS : List Addr := AS_0 ++ (AS_1 ++ (AS_2 ++ (AS_3 ++ (AS_4 ++ (AS_5 ++ (AS_6 ++ (AS_7 ++ (AS_8 ++ (AS_9 ++ (AS_10 ++ (AS_11)))))))))))
abbrev hk : PySem.W.Hook := E1.hookY AS E1.FA E1.FN E1.TS E1.EXB E1.ER
def ob (s : PySem.W.SharedT) : E1.AlY := E1.obsY AS E1.FA E1.FN E1.TS E1.EXB E1.ER (HandSHeadRun.getT s)
theorem ob_eq (s : PySem.W.SharedT) : ob s = hk.obs s.abs := E1.obsY_eq (HandSHeadRun.getT_eq s)
set_option maxRecDepth 100000 in
set_option maxHeartbeats 0 in
theorem run_f (w : World) : HandSHeadRun.RunEq RR qv hk ob 5668 names (w.withFollow "special-get-raises" false) := fun os => by kernel_rfl
set_option maxRecDepth 100000 in
set_option maxHeartbeats 0 in
theorem run_t (w : World) : HandSHeadRun.RunEq RR qv hk ob 5668 names (w.withFollow "special-get-raises" true) := fun os => by kernel_rfl
theorem run (w : World) : HandSHeadRun.RunEq RR qv hk ob 5668 names w :=
  byRow2 "special-get-raises" (P := fun w => HandSHeadRun.RunEq RR qv hk ob 5668 names w) run_f run_t w
end HX

namespace E1
open PySem PySem.Spec PyProof.Rows L2

def CalD (P : Program) (w : World) (K : PySem.W.Frag) (mg : Str → Option Value) (base : Heap) (k : Nat) (x : Str) (ps : List Str) (dvs : List V) (sp : Sp) : Prop :=
  ∃ (f : Addr) (fd : FuncData) (ds : List Value), mg x = some (.ref f) ∧ PySem.W.keepIn K (.ref f) = true ∧ Vals dvs ds ∧ Binds K fd ps ds ∧ FnOk P w K mg base CX0 k f fd ps sp
theorem pe_cald {X : Cx} {k j : Nat} {x : Str} {ps : List Str} {dvs : List V} {sp : Sp} {e : Expr} {es : List Expr} {t : TA} {p pos : Pos} (c : CalD X.prog X.w X.K X.mg X.base k x ps dvs sp) (hr : Room j X.A) (ha : PA X (e :: es) t) (hle : k ≤ j := by decide) (hg : Gl X x := by rfl)
    (hdb : (x == ("__debug__" : Str)) = false := by decide) (he : starEach (e :: es) X.env = (false, eval e X.env) :: starEach es X.env := by rfl) (hpl : (backTo pos (starEach es X.env)).any (·.1) = false := by rfl) :
    PE X (.Call (.Name x p) (e :: es) [] pos) (tCall sp dvs E0 t) := by
  obtain ⟨f, fd, ds, h1, h2, hd, h3, h4⟩ := c
  exact pe_call h4 (hr.mono hle) hg h1 h2 h3 hd pass0 ha hdb he hpl
def CalK (P : Program) (w : World) (K : PySem.W.Frag) (mg : Str → Option Value) (base : Heap) (k : Nat) (x : Str) (ps : List Str) (n : Nat) (ks : List Str) (gV : List V → List V → List V) (sp : Sp) : Prop :=
  ∃ (f : Addr) (fd : FuncData) (g : List Value → List Value → List Value), mg x = some (.ref f) ∧ PySem.W.keepIn K (.ref f) = true ∧ KBn K fd ps n ks g gV ∧ FnOk P w K mg base CX0 k f fd ps sp
theorem pe_calk {X : Cx} {k j n : Nat} {x : Str} {ps ks : List Str} {gV : List V → List V → List V} {sp : Sp} {e : Expr} {es : List Expr} {kws : List Keyword} {t tk : TA} {p pos : Pos} (c : CalK X.prog X.w X.K X.mg X.base k x ps n ks gV sp) (hr : Room j X.A)
    (ha : PA X (e :: es) t) (hkw : PK X kws tk) (hle : k ≤ j := by decide) (hg : Gl X x := by rfl) (hall : (backToKw pos (keywordEach kws X.env)).all (·.1.isSome) = true := by rfl) (hks : (backToKw pos (keywordEach kws X.env)).filterMap (·.1) = ks := by rfl)
    (hdb : (x == ("__debug__" : Str)) = false := by decide) (he : starEach (e :: es) X.env = (false, eval e X.env) :: starEach es X.env := by rfl)
    (hpl : ((backTo pos (starEach (e :: es) X.env)).any (·.1) || (backToKw pos (keywordEach kws X.env)).any (·.1.isNone)) = false := by rfl) :
    PE X (.Call (.Name x p) (e :: es) kws pos) (tCallN n ks.length sp gV E0 t tk) := by
  obtain ⟨f, fd, g, h1, h2, h3, h4⟩ := c
  exact pe_callN h4 (hr.mono hle) hg h1 h2 h3 pass0 ha hkw hall hks hdb he hpl
theorem pe_calk0 {X : Cx} {k j : Nat} {x : Str} {ps ks : List Str} {gV : List V → List V → List V} {sp : Sp} {kws : List Keyword} {tk : TA} {p pos : Pos} (c : CalK X.prog X.w X.K X.mg X.base k x ps 0 ks gV sp) (hr : Room j X.A)
    (hkw : PK X kws tk) (hle : k ≤ j := by decide) (hg : Gl X x := by rfl) (hall : (backToKw pos (keywordEach kws X.env)).all (·.1.isSome) = true := by rfl) (hks : (backToKw pos (keywordEach kws X.env)).filterMap (·.1) = ks := by rfl)
    (hdb : (x == ("__debug__" : Str)) = false := by decide)
    (hpl : ((backTo pos (starEach [] X.env)).any (·.1) || (backToKw pos (keywordEach kws X.env)).any (·.1.isNone)) = false := by rfl) :
    PE X (.Call (.Name x p) [] kws pos) (tCallN 0 ks.length sp gV E0 tNil tk) := by
  obtain ⟨f, fd, g, h1, h2, h3, h4⟩ := c
  refine ⟨fun pins s σ H Q I h => ?_⟩
  refine wpAny_Call_Name_kw (ld_glob I hg h1 ?_ hdb)
  refine PySem.W.callWith_KW0 (h₀ := X.base) I.ok.mod.kin h2 hall (thn (hkw.run pos pins s σ H _ I h) fun ws s2 ⟨zs, H2, I2, rz, l1, l2, q2⟩ => ⟨I2.kIn, ?_⟩) hpl
  rw [hks]
  exact run_fnN (vs := []) (us := []) h4 (hr.mono hle) h3 pass0 I2 .nil rz l1 l2 q2
/-- a class handed to isinstance -/
theorem isiB {K : PySem.W.Frag} {H : Hp} {x : V} {a b : String} {r : Bool} {Q : VK} (ty : TyX K H x (.type a)) (k : kitB a b = some r) (q : Q (.bl r) H) : rIsi K [x, .ty b] H Q :=
  ⟨x, .ty b, .type a, .type b, r, rfl, .ty _, ty, kit_ty k, q⟩
/-- whether a thing is a whole number -/
def WholeIs (K : PySem.W.Frag) (H : Hp) (x : V) (b : Bool) : Prop := (∃ i, x = .int i ∧ b = true) ∨ (∃ c, x = .bl c ∧ b = false) ∨ (b = false ∧ ∃ t : String, TyX K H x (.type t) ∧ kitB t "int" = some false)
theorem WholeIs.int {K : PySem.W.Frag} {H : Hp} (i : Int) : WholeIs K H (.int i) true := .inl ⟨i, rfl, rfl⟩
def spWhole (K : PySem.W.Frag) : Sp := fun vs H Q _ => ∃ (x : V) (b : Bool), vs = [x] ∧ WholeIs K H x b ∧ Q (.bl b) H
/-! ### the mathematics of fractions in lowest terms -/
def gI (t b : Int) : Int := (Int.gcd t b : Nat)
def lowT (t b : Int) : Int := (if b < 0 then -t else t) / gI t b
def lowB (t b : Int) : Int := (if b < 0 then -b else b) / gI t b
theorem gI_neg (t b : Int) : gI (-t) (-b) = gI t b := by
  unfold gI
  rw [Int.neg_gcd, Int.gcd_neg]
theorem gI_pos {t b : Int} (h : b ≠ 0) : 0 < gI t b := by
  have : 0 < Int.gcd t b := Int.gcd_pos_of_ne_zero_right t h
  unfold gI
  omega
theorem gI_le {t b : Int} (h : b ≠ 0) : (gI t b).natAbs ≤ b.natAbs := by
  have d : Int.gcd t b ∣ b.natAbs := Nat.gcd_dvd_right t.natAbs b.natAbs
  have := Nat.le_of_dvd (by omega) d
  unfold gI
  omega
def spShared : Sp := fun vs H Q _ => ∃ t b : Int, vs = [.int t, .int b] ∧ 0 ≤ b ∧ Q (.int (gI t b)) H
def spLow : Sp := fun vs H Q _ => ∃ t b : Int, vs = [.int t, .int b] ∧ b ≠ 0 ∧ b.natAbs < 2 ^ 4000 ∧ ∀ p, H p = none → Q (.ref p) (upd H p (.tup [.int (lowT t b), .int (lowB t b)]))
/-- two fractions at two places; the tops and bottoms told by f and d -/
def spTwo (K : PySem.W.Frag) (pre : Int → Int → Int → Int → Prop) (f d : Int → Int → Int → Int → Int) : Sp := fun vs H Q _ => ∃ (a c : Addr) (t u v x : Int), vs = [.ref a, .ref c] ∧ SqT K H a [.int t, .int u] ∧ SqT K H c [.int v, .int x] ∧
  pre t u v x ∧ 0 < u ∧ 0 < x ∧ t.natAbs < 2 ^ 1900 ∧ u.natAbs < 2 ^ 1900 ∧ v.natAbs < 2 ^ 1900 ∧ x.natAbs < 2 ^ 1900 ∧ ∀ p, H p = none → Q (.ref p) (upd H p (.tup [.int (lowT (f t u v x) (d t u v x)), .int (lowB (f t u v x) (d t u v x))]))
def spUnder (K : PySem.W.Frag) : Sp := fun vs H Q _ => ∃ (a c : Addr) (t u v x : Int), vs = [.ref a, .ref c] ∧ SqT K H a [.int t, .int u] ∧ SqT K H c [.int v, .int x] ∧
  t.natAbs < 2 ^ 1900 ∧ u.natAbs < 2 ^ 1900 ∧ v.natAbs < 2 ^ 1900 ∧ x.natAbs < 2 ^ 1900 ∧ Q (.bl (decide (t * x < v * u))) H
def absI (t : Int) : Int := if t < 0 then -t else t
def spSize (K : PySem.W.Frag) : Sp := fun vs H Q _ => ∃ (a : Addr) (t u : Int), vs = [.ref a] ∧ SqT K H a [.int t, .int u] ∧ ∀ p, H p = none → Q (.ref p) (upd H p (.tup [.int (absI t), .int u]))
def twoT (m : Int) : Int := if m < 0 then 1 else 2 ^ m.toNat
def twoB (m : Int) : Int := if m < 0 then 2 ^ (-m).toNat else 1
def spTwoTo : Sp := fun vs H Q _ => ∃ m : Int, vs = [.int m] ∧ -400 ≤ m ∧ m ≤ 400 ∧ ∀ p, H p = none → Q (.ref p) (upd H p (.tup [.int (twoT m), .int (twoB m)]))
def spIsFrac : Sp := fun vs H Q _ => ∃ (a : Addr) (t u : Int), vs = [.ref a] ∧ H a = some (.tup [.int t, .int u]) ∧ 1 ≤ u ∧ Q (.bl (decide (gI t u = 1))) H
theorem up {x : Nat} {a b : Nat} (h : x < 2 ^ a) (l : a ≤ b) : x < 2 ^ b := Nat.lt_of_lt_of_le h (Nat.pow_le_pow_right (by decide) l)
theorem up2 {x y : Nat} {a b : Nat} (h : x ≤ y) (h2 : y < 2 ^ a) (l : a ≤ b) : x < 2 ^ b := Nat.lt_of_le_of_lt h (up h2 l)
theorem same_but {H H1 H2 : Hp} {p : Addr} (s : Same H H1) (b : SameBut p H1 H2) (hp : H p = none) : Same H H2 := fun a o e => b a o (ne_of_none e hp) (s a o e)
theorem Same.free {H H' : Hp} {p : Addr} (s : Same H H') (h : H' p = none) : H p = none := by
  cases e : H p with
  | none => rfl
  | some o =>
    rw [s _ _ e] at h
    cases h
structure Zs (mg : Str → Option Value) : Prop where
  isinstance : mg "isinstance" = none
  int : mg "int" = none
  bool : mg "bool" = none
  abs : mg "abs" = none
  str : mg "str" = none
  len : mg "len" = none
  max : mg "max" = none
  tuple : mg "tuple" = none
  list : mg "list" = none
  enumerate : mg "enumerate" = none
  range : mg "range" = none
  all : mg "all" = none
  zip : mg "zip" = none
  min : mg "min" = none
section
variable {P : Program} {w : World} {K : PySem.W.Frag} {mg : Str → Option Value} {base : Heap}
theorem sc_is_whole : FnScope ["thing"] ["thing"] (defScope s_is_whole) := ⟨rfl, rfl, rfl, by decide +kernel, rfl, by decide +kernel, by decide +kernel⟩
theorem ok_is_whole {f : Addr} {fd : FuncData} {k : Nat} (F : Fun K "is_whole" "is_whole" s_is_whole f fd) (z : Zs mg) : FnOk P w K mg base CX0 (k + 1) f fd ["thing"] (spWhole K) := by
  refine F.ok sc_is_whole (fun vs H Q E h => ?_) (fun cdv A outer s H vs Q E hr h => ?_)
  · obtain ⟨x, b, rfl, _⟩ := h
    rfl
  · obtain ⟨x, b, rfl, hw, q⟩ := h
    refine ⟨_, (pss_one (ps_ret (pe_and (pe_callB call_isi (by rfl) z.isinstance (by decide +kernel) (pa_cons (pv 0) (pa_cons (pe_bltn (v := .ty "int") (by rfl) z.int (by decide +kernel) rfl) pa_nil))) (pe_one (pe_not (pe_callB call_isi (by rfl) z.isinstance (by decide +kernel) (pa_cons (pv 0) (pa_cons (pe_bltn (v := .ty "bool") (by rfl) z.bool (by decide +kernel) rfl) pa_nil)))))))), ?_⟩
    rcases hw with ⟨i, rfl, rfl⟩ | ⟨c, rfl, rfl⟩ | ⟨rfl, t, ty, kt⟩
    · exact ⟨_, rfl, _, .ty "int", _, _, true, rfl, .ty _, .base (.int i), kit_ty (by decide +kernel), _, rfl, iteT ⟨_, rfl, _, .ty "bool", _, _, false, rfl, .ty _, .base (.int i), kit_ty (by decide +kernel), _, rfl, q⟩⟩
    · exact ⟨_, rfl, _, .ty "int", _, _, true, rfl, .ty _, .base (.bl c), kit_ty (by decide +kernel), _, rfl, iteT ⟨_, rfl, _, .ty "bool", _, _, true, rfl, .ty _, .base (.bl c), kit_ty (by decide +kernel), _, rfl, q⟩⟩
    · exact ⟨_, rfl, _, .ty "int", _, _, false, rfl, .ty _, ty, kit_ty kt, _, rfl, iteF q⟩
theorem sc_shared_divisor : FnScope ["top", "bottom", "one", "other"] ["top", "bottom"] (defScope s_shared_divisor) := ⟨rfl, rfl, rfl, by decide +kernel, rfl, by decide +kernel, by decide +kernel⟩
theorem ok_shared_divisor {f : Addr} {fd : FuncData} {k : Nat} (F : Fun K "shared_divisor" "shared_divisor" s_shared_divisor f fd) (z : Zs mg) : FnOk P w K mg base CX0 (k + 1) f fd ["top", "bottom"] spShared := by
  refine F.ok sc_shared_divisor (fun vs H Q E h => ?_) (fun cdv A outer s H vs Q E hr h => ?_)
  · obtain ⟨t, b, rfl, _⟩ := h
    rfl
  · obtain ⟨t, b, rfl, hb, q⟩ := h
    refine ⟨_, (pss_cons (ps_set (i := 2) sc_shared_divisor.nd rfl (.inl rfl) (pe_callB call_abs (by rfl) z.abs (by decide +kernel) (pa_cons (pv 0) pa_nil)))
      (pss_cons (ps_set (i := 3) sc_shared_divisor.nd rfl (.inl rfl) (pv 1))
      (pss_cons (ps_while PassesOwn.never (pt_truth (pv 3) (by intro _; rfl)) (pss_one (ps_par (i := 2) (j := 3) (by rfl) sc_shared_divisor.nd rfl rfl (by decide) rfl rfl (pa_cons (pv 3) (pa_cons (pe_op op_mod (pv 2) (pv 3)) pa_nil)) (by rfl))))
      (pss_one (ps_ret (pv 2)))))), ?_⟩
    refine ⟨_, rfl, _, rfl, ?_⟩
    refine ⟨_, rfl, ?_⟩
    dsimp only [gName, tSeq]
    refine while_by (fun σ H' => H' = H ∧ ∃ m n : Nat, σ = [some (.int t), some (.int b), some (.int (m : Int)), some (.int (n : Int))] ∧ Nat.gcd m n = Int.gcd t b)
      (fun σ _ => match σ with | [_, _, _, some (.int r)] => r.toNat | _ => 0) ⟨rfl, t.natAbs, b.natAbs, ?_, rfl⟩ (fun σ H1 hP => ?_) (fun σ H Q Q' m hh => ?_)
    · have e1 : (if t < 0 then -t else t) = (t.natAbs : Int) := by split <;> omega
      have e2 : b = (b.natAbs : Int) := by omega
      show [some (V.int t), some (V.int b), some (V.int (if t < 0 then -t else t)), some (V.int b)] = _
      rw [e1, ← e2]
    · obtain ⟨rfl, m, n, rfl, hg⟩ := hP
      refine ⟨_, rfl, _, rfl, ?_⟩
      by_cases hn : n = 0
      · subst hn
        have e : ((((0 : Nat) : Int)) != 0) = false := rfl
        rw [e]
        refine iteF ⟨_, rfl, ?_⟩
        rw [Nat.gcd_zero_right] at hg
        have e2 : (m : Int) = gI t b := by
          unfold gI
          rw [hg]
        rw [e2]
        exact q
      · have e : ((n : Int) != 0) = true := by
          rw [bne_iff_ne]
          omega
        rw [e]
        refine iteT ⟨_, rfl, _, rfl, _, rfl, _, _, rfl, rfl, (by omega), _, _, rfl, ⟨⟨rfl, n, m % n, rfl, ?_⟩, ?_⟩⟩
        · rw [← hg, Nat.gcd_comm n (m % n), ← Nat.gcd_rec n m, Nat.gcd_comm]
        · show ((m : Int) % (n : Int)).toNat < ((n : Int)).toNat
          have := Int.emod_lt_of_pos (m : Int) (show (0 : Int) < n by omega)
          have := Int.emod_nonneg (m : Int) (show (n : Int) ≠ 0 by omega)
          omega
    · obtain ⟨v, e, kk, tv, hq⟩ := hh
      exact ⟨v, e, kk, tv, m _ _ hq⟩
theorem sc_lowest : FnScope ["top", "bottom", "shared"] ["top", "bottom"] (defScope s_lowest) := ⟨rfl, rfl, rfl, by decide +kernel, rfl, by decide +kernel, by decide +kernel⟩
theorem ok_lowest {f : Addr} {fd : FuncData} (F : Fun K "lowest" "lowest" s_lowest f fd) (c_shared_divisor : Cal P w K mg base 1 "shared_divisor" ["top", "bottom"] spShared) : FnOk P w K mg base CX0 2 f fd ["top", "bottom"] spLow := by
  refine F.ok sc_lowest (fun vs H Q E h => ?_) (fun cdv A outer s H vs Q E hr h => ?_)
  · obtain ⟨t, b, rfl, _⟩ := h
    rfl
  · obtain ⟨t, b, rfl, hb, hl, q⟩ := h
    refine ⟨_, (pss_cons (ps_if (pt_cmpR op_lt (pv 1) pe_int (nomark _)) (pss_cons (ps_set (i := 0) sc_lowest.nd rfl (.inl rfl) (pe_un un_neg (pv 0)))
      (pss_one (ps_set (i := 1) sc_lowest.nd rfl (.inl rfl) (pe_un un_neg (pv 1))))) pss_nil)
      (pss_cons (ps_set (i := 2) sc_lowest.nd rfl (.inl rfl) (pe_cal c_shared_divisor hr (pa_cons (pv 0) (pa_cons (pv 1) pa_nil))))
      (pss_one (ps_ret (pe_tup (pa_cons (pe_op op_fdivW (pv 0) (pv 2)) (pa_cons (pe_op op_fdivW (pv 1) (pv 2)) pa_nil))))))), ?_⟩
    have g0 := gI_pos (t := t) hb
    have g1 : (gI t b).natAbs < 2 ^ 4000 := Nat.lt_of_le_of_lt (gI_le hb) hl
    refine ⟨_, rfl, _, _, rfl, rfl, _, rfl, ite2 (fun c => ?_) (fun c => ?_)⟩
    · have hc := toB c
      refine ⟨_, rfl, _, rfl, ?_⟩
      refine ⟨_, rfl, _, rfl, ?_⟩
      refine ⟨_, rfl, _, rfl, -t, -b, rfl, by omega, ?_⟩
      rw [gI_neg]
      refine ⟨_, rfl, _, rfl, _, _, rfl, rfl, wide_div g0 g1 (by decide) (by decide), _, rfl, _, rfl, _, _, rfl, rfl, wide_div g0 g1 (by decide) (by decide), (by show 2 ≤ sizeLine; decide), fun p hp => ?_⟩
      have := q p hp
      unfold lowT lowB at this
      rw [if_pos hc, if_pos hc] at this
      exact this
    · have hc := toNB c
      refine ⟨_, rfl, _, rfl, t, b, rfl, by omega, ?_⟩
      refine ⟨_, rfl, _, rfl, _, _, rfl, rfl, wide_div g0 g1 (by decide) (by decide), _, rfl, _, rfl, _, _, rfl, rfl, wide_div g0 g1 (by decide) (by decide), (by show 2 ≤ sizeLine; decide), fun p hp => ?_⟩
      have := q p hp
      unfold lowT lowB at this
      rw [if_neg hc, if_neg hc] at this
      exact this
theorem sc_times : FnScope ["one", "other"] ["one", "other"] (defScope s_times) := ⟨rfl, rfl, rfl, by decide +kernel, rfl, by decide +kernel, by decide +kernel⟩
theorem ok_times {f : Addr} {fd : FuncData} (F : Fun K "times" "times" s_times f fd) (c_lowest : Cal P w K mg base 2 "lowest" ["top", "bottom"] spLow) : FnOk P w K mg base CX0 3 f fd ["one", "other"] (spTwo K (fun t u v x => True) (fun t u v x => t * v) (fun t u v x => u * x)) := by
  refine F.ok sc_times (fun vs H Q E h => ?_) (fun cdv A outer s H vs Q E hr h => ?_)
  · obtain ⟨a, c, t, u, v, x, rfl, _⟩ := h
    rfl
  · obtain ⟨a, c, t, u, v, x, rfl, ha, hc, pr, hu, hx, b1, b2, b3, b4, q⟩ := h
    refine ⟨_, (pss_one (ps_ret (pe_cal c_lowest hr (pa_cons (pe_op op_mulW (pe_ix ix_tup (pv 0) pe_int (fun _ _ => rfl)) (pe_ix ix_tup (pv 1) pe_int (fun _ _ => rfl))) (pa_cons (pe_op op_mulW (pe_ix ix_tup (pv 0) pe_int (fun _ _ => rfl)) (pe_ix ix_tup (pv 1) pe_int (fun _ _ => rfl))) pa_nil))))), ?_⟩
    have nz : u * x ≠ 0 := Int.mul_ne_zero (by omega) (by omega)
    refine ⟨_, rfl, a, _, 0, .int t, rfl, rfl, ha, a0, _, rfl, c, _, 0, .int v, rfl, rfl, hc, a0, _, _, rfl, rfl, wide_mul b1 b3 (by decide) (by decide) (by decide), _, rfl, a, _, 1, .int u, rfl, rfl, ha, a1, _, rfl, c, _, 1, .int x, rfl, rfl, hc, a1, _, _, rfl, rfl, wide_mul b2 b4 (by decide) (by decide) (by decide), _, _, rfl, nz, ?_, q⟩
    exact Nat.lt_of_lt_of_le (wide_lt b2 b4) (Nat.pow_le_pow_right (by decide) (by decide))
theorem sc_divided : FnScope ["one", "other"] ["one", "other"] (defScope s_divided) := ⟨rfl, rfl, rfl, by decide +kernel, rfl, by decide +kernel, by decide +kernel⟩
theorem ok_divided {f : Addr} {fd : FuncData} (F : Fun K "divided" "divided" s_divided f fd) (c_lowest : Cal P w K mg base 2 "lowest" ["top", "bottom"] spLow) : FnOk P w K mg base CX0 3 f fd ["one", "other"] (spTwo K (fun t u v x => v ≠ 0) (fun t u v x => t * x) (fun t u v x => u * v)) := by
  refine F.ok sc_divided (fun vs H Q E h => ?_) (fun cdv A outer s H vs Q E hr h => ?_)
  · obtain ⟨a, c, t, u, v, x, rfl, _⟩ := h
    rfl
  · obtain ⟨a, c, t, u, v, x, rfl, ha, hc, pr, hu, hx, b1, b2, b3, b4, q⟩ := h
    refine ⟨_, (pss_cons (ps_if (pt_cmpR op_eq (pe_ix ix_tup (pv 1) pe_int (fun _ _ => rfl)) pe_int (nomark _)) (pss_one ps_never) pss_nil)
      (pss_one (ps_ret (pe_cal c_lowest hr (pa_cons (pe_op op_mulW (pe_ix ix_tup (pv 0) pe_int (fun _ _ => rfl)) (pe_ix ix_tup (pv 1) pe_int (fun _ _ => rfl))) (pa_cons (pe_op op_mulW (pe_ix ix_tup (pv 0) pe_int (fun _ _ => rfl)) (pe_ix ix_tup (pv 1) pe_int (fun _ _ => rfl))) pa_nil)))))), ?_⟩
    have nz : u * v ≠ 0 := Int.mul_ne_zero (by omega) pr
    refine ⟨_, rfl, c, _, 0, .int v, rfl, rfl, hc, a0, rfl, _, rfl, ite2 (fun c' => absurd (V.int.inj (toB c')) pr) (fun _ => ?_)⟩
    refine ⟨_, rfl, a, _, 0, .int t, rfl, rfl, ha, a0, _, rfl, c, _, 1, .int x, rfl, rfl, hc, a1, _, _, rfl, rfl, wide_mul b1 b4 (by decide) (by decide) (by decide), _, rfl, a, _, 1, .int u, rfl, rfl, ha, a1, _, rfl, c, _, 0, .int v, rfl, rfl, hc, a0, _, _, rfl, rfl, wide_mul b2 b3 (by decide) (by decide) (by decide), _, _, rfl, nz, ?_, q⟩
    exact Nat.lt_of_lt_of_le (wide_lt b2 b3) (Nat.pow_le_pow_right (by decide) (by decide))
theorem sc_two_to : FnScope ["many"] ["many"] (defScope s_two_to) := ⟨rfl, rfl, rfl, by decide +kernel, rfl, by decide +kernel, by decide +kernel⟩
theorem ok_two_to {f : Addr} {fd : FuncData} (F : Fun K "two_to" "two_to" s_two_to f fd) (z : Zs mg) (c_is_whole : Cal P w K mg base 1 "is_whole" ["thing"] (spWhole K)) (g_GREATEST_POWER : ∃ t, mg "GREATEST_POWER" = some (.int 400 t)) : FnOk P w K mg base CX0 2 f fd ["many"] spTwoTo := by
  refine F.ok sc_two_to (fun vs H Q E h => ?_) (fun cdv A outer s H vs Q E hr h => ?_)
  · obtain ⟨m, rfl, _⟩ := h
    rfl
  · obtain ⟨m, rfl, m0, m1, q⟩ := h
    obtain ⟨tok, gP⟩ := g_GREATEST_POWER
    refine ⟨_, (pss_cons (ps_if (PW.pt (pw_or (pt_not (pt_val (pe_cal c_is_whole hr (pa_cons (pv 0) pa_nil)))) (pw_or1 (pt_cmpR op_gt (pe_callB call_abs (by rfl) z.abs (by decide +kernel) (pa_cons (pv 0) pa_nil)) (pe_glob (v := .int 400) (by rfl) gP ⟨_, rfl⟩) (nomark _))))) (pss_one ps_never) pss_nil)
      (pss_cons (ps_if (pt_cmpR op_lt (pv 0) pe_int (nomark _)) (pss_one (ps_ret (pe_tup (pa_cons pe_int (pa_cons (pe_op op_shl pe_int (pe_un un_neg (pv 0))) pa_nil))))) pss_nil)
      (pss_one (ps_ret (pe_tup (pa_cons (pe_op op_shl pe_int (pv 0)) (pa_cons pe_int pa_nil))))))), ?_⟩
    refine ⟨_, rfl, _, _, rfl, .int m, _, rfl, iteF ⟨_, rfl, _, rfl, _, _, rfl, rfl, _, rfl, ite2 (fun c => ?_) (fun c => ?_)⟩⟩
    · have := toB c
      split at this <;> omega
    · refine ⟨_, rfl, _, _, rfl, rfl, _, rfl, ite2 (fun c2 => ?_) (fun c2 => ?_)⟩
      · have hm := toB c2
        refine ⟨_, rfl, _, rfl, _, _, rfl, rfl, ⟨by omega, by omega, by decide⟩, (by show 2 ≤ sizeLine; decide), fun p hp => ?_⟩
        have e := q p hp
        unfold twoT twoB at e
        rw [if_pos hm, if_pos hm] at e
        show Q (.ref p) (upd H p (.tup [.int 1, .int (1 * 2 ^ (-m).toNat)]))
        rw [Int.one_mul]
        exact e
      · have hm := toNB c2
        refine ⟨_, rfl, _, _, rfl, rfl, ⟨by omega, by omega, by decide⟩, (by show 2 ≤ sizeLine; decide), fun p hp => ?_⟩
        have e := q p hp
        unfold twoT twoB at e
        rw [if_neg hm, if_neg hm] at e
        show Q (.ref p) (upd H p (.tup [.int (1 * 2 ^ m.toNat), .int 1]))
        rw [Int.one_mul]
        exact e
end
end E1

namespace E1
open PySem PySem.Spec PyProof.Rows L2
/-! ### the seven manners -/
inductive Mn where
  | down | up | inn | out | half | even | far
def Mn.str : Mn → Str
  | .down => "down"
  | .up => "up"
  | .inn => "in"
  | .out => "out"
  | .half => "half"
  | .even => "even"
  | .far => "far"
def fDown (t b : Int) : Int := t / b
def fUp (t b : Int) : Int := -(-t / b)
def fHalf (t b : Int) : Int := (2 * t + b) / (2 * b)
def fEven (t b : Int) : Int := if 2 * (fHalf t b * b - t) = b ∧ fHalf t b % 2 ≠ 0 then fHalf t b - 1 else fHalf t b
def fFar (t b : Int) : Int := if t > 0 then fHalf t b else -(fHalf (-t) b)
def fIn (t b : Int) : Int := if t > 0 then fDown t b else fUp t b
def fOut (t b : Int) : Int := if t > 0 then fUp t b else fDown t b
def Mn.f : Mn → Int → Int → Int
  | .down => fDown
  | .up => fUp
  | .inn => fIn
  | .out => fOut
  | .half => fHalf
  | .even => fEven
  | .far => fFar
def lawR (m : Mn) (t b : Int) : Int :=
  match m with
  | .down => t / b
  | .up => if t % b = 0 then t / b else t / b + 1
  | .inn => if t % b = 0 then t / b else t / b + (if t < 0 then 1 else 0)
  | .out => if t % b = 0 then t / b else t / b + (if t > 0 then 1 else 0)
  | .half => if 2 * (t % b) < b then t / b else t / b + 1
  | .even => if 2 * (t % b) < b then t / b else if b < 2 * (t % b) then t / b + 1 else t / b + t / b % 2
  | .far => if 2 * (t % b) < b then t / b else if b < 2 * (t % b) then t / b + 1 else t / b + (if t > 0 then 1 else 0)
theorem div_is {t b q : Int} (hb : 0 < b) (h1 : q * b ≤ t) (h2 : t < q * b + b) : t / b = q := by
  have a1 : q ≤ t / b := Int.le_ediv_of_mul_le hb h1
  have a2 : t / b < q + 1 := Int.ediv_lt_of_lt_mul hb (by rw [Int.add_mul, Int.one_mul]; exact h2)
  omega
theorem dm (t : Int) {b : Int} (hb : 0 < b) : t = t / b * b + t % b ∧ 0 ≤ t % b ∧ t % b < b := by
  refine ⟨?_, Int.emod_nonneg _ (by omega), Int.emod_lt_of_pos _ hb⟩
  have := Int.mul_ediv_add_emod t b
  rw [Int.mul_comm] at this
  omega
theorem fUp_is {t b : Int} (hb : 0 < b) : fUp t b = if t % b = 0 then t / b else t / b + 1 := by
  obtain ⟨e, r0, r1⟩ := dm t hb
  unfold fUp
  generalize t / b = q at *
  generalize t % b = r at *
  split
  · rename_i h
    have := div_is (t := -t) (q := -q) hb (by rw [Int.neg_mul]; omega) (by rw [Int.neg_mul]; omega)
    rw [this]
    omega
  · rename_i h
    have := div_is (t := -t) (q := -q - 1) hb (by rw [Int.sub_mul, Int.neg_mul, Int.one_mul]; omega) (by rw [Int.sub_mul, Int.neg_mul, Int.one_mul]; omega)
    rw [this]
    omega
theorem fHalf_is {t b : Int} (hb : 0 < b) : fHalf t b = if 2 * (t % b) < b then t / b else t / b + 1 := by
  obtain ⟨e, r0, r1⟩ := dm t hb
  unfold fHalf
  generalize t / b = q at *
  generalize t % b = r at *
  have e2 : q * (2 * b) = 2 * (q * b) := Int.mul_left_comm q 2 b
  split
  · rename_i h
    exact div_is (by omega) (by rw [e2]; omega) (by rw [e2]; omega)
  · rename_i h
    exact div_is (by omega) (by rw [Int.add_mul, e2, Int.one_mul]; omega) (by rw [Int.add_mul, e2, Int.one_mul]; omega)
theorem fHalf_neg {t b : Int} (hb : 0 < b) : -(fHalf (-t) b) = if b < 2 * (t % b) then t / b + 1 else t / b := by
  obtain ⟨e, r0, r1⟩ := dm t hb
  unfold fHalf
  generalize t / b = q at *
  generalize t % b = r at *
  have e2 : q * (2 * b) = 2 * (q * b) := Int.mul_left_comm q 2 b
  split
  · rename_i h
    have := div_is (t := 2 * -t + b) (b := 2 * b) (q := -q - 1) (by omega) (by rw [Int.sub_mul, Int.neg_mul, e2, Int.one_mul]; omega) (by rw [Int.sub_mul, Int.neg_mul, e2, Int.one_mul]; omega)
    rw [this]
    omega
  · rename_i h
    have := div_is (t := 2 * -t + b) (b := 2 * b) (q := -q) (by omega) (by rw [Int.neg_mul, e2]; omega) (by rw [Int.neg_mul, e2]; omega)
    rw [this]
    omega
theorem fEven_is {t b : Int} (hb : 0 < b) : fEven t b = lawR .even t b := by
  obtain ⟨e, r0, r1⟩ := dm t hb
  unfold fEven
  rw [fHalf_is hb]
  show _ = if 2 * (t % b) < b then t / b else if b < 2 * (t % b) then t / b + 1 else t / b + t / b % 2
  generalize t / b = q at *
  generalize t % b = r at *
  by_cases h : 2 * r < b
  · rw [if_pos h, if_pos h, if_neg (by intro z; omega)]
  · rw [if_neg h, if_neg h, Int.add_mul, Int.one_mul]
    by_cases h2 : b < 2 * r
    · rw [if_pos h2, if_neg (by intro z; omega)]
    · rw [if_neg h2]
      by_cases h3 : (q + 1) % 2 ≠ 0
      · rw [if_pos ⟨by omega, h3⟩]
        omega
      · rw [if_neg (fun z => h3 z.2)]
        omega
theorem f_lawR (m : Mn) {t b : Int} (hb : 0 < b) : m.f t b = lawR m t b := by
  obtain ⟨e, r0, r1⟩ := dm t hb
  cases m with
  | down => rfl
  | up => exact fUp_is hb
  | inn =>
    show fIn t b = if t % b = 0 then t / b else t / b + (if t < 0 then 1 else 0)
    unfold fIn fDown
    rw [fUp_is hb]
    by_cases h : t > 0
    · rw [if_pos h, if_neg (show ¬ t < 0 by omega)]
      split <;> omega
    · rw [if_neg h]
      by_cases h2 : t < 0
      · rw [if_pos h2]
      · have h3 : t = 0 := by omega
        rw [if_neg h2, h3]
        simp
  | out =>
    show fOut t b = if t % b = 0 then t / b else t / b + (if t > 0 then 1 else 0)
    unfold fOut fDown
    rw [fUp_is hb]
    by_cases h : t > 0
    · rw [if_pos h, if_pos h]
    · rw [if_neg h, if_neg h]
      split <;> omega
  | half => exact fHalf_is hb
  | even => exact fEven_is hb
  | far =>
    show fFar t b = if 2 * (t % b) < b then t / b else if b < 2 * (t % b) then t / b + 1 else t / b + (if t > 0 then 1 else 0)
    unfold fFar
    rw [fHalf_is hb, fHalf_neg hb]
    by_cases h : t > 0
    · rw [if_pos h, if_pos h]
      split
      · rfl
      · split <;> rfl
    · rw [if_neg h, if_neg h]
      by_cases h2 : 2 * (t % b) < b
      · rw [if_pos h2, if_neg (show ¬ b < 2 * (t % b) by omega)]
      · rw [if_neg h2]
        split <;> omega
theorem lt_g {x y g : Int} (hg : 0 < g) : x * g < y * g ↔ x < y := ⟨fun h => Int.lt_of_mul_lt_mul_right h (Int.le_of_lt hg), fun h => Int.mul_lt_mul_of_pos_right h hg⟩
theorem lawR_mul (m : Mn) {t b g : Int} (hb : 0 < b) (hg : 0 < g) : lawR m (t * g) (b * g) = lawR m t b := by
  have e1 : t * g / (b * g) = t / b := Int.mul_ediv_mul_of_pos_left _ _ hg
  have e2 : t * g % (b * g) = t % b * g := by
    rw [Int.mul_comm t g, Int.mul_comm b g, Int.mul_emod_mul_of_pos _ _ hg, Int.mul_comm]
  have c0 : t % b * g = 0 ↔ t % b = 0 := by
    constructor
    · intro h
      rcases Int.mul_eq_zero.mp h with h | h
      · exact h
      · omega
    · intro h
      rw [h, Int.zero_mul]
  have c1 : t * g < 0 ↔ t < 0 := by
    have := lt_g (x := t) (y := 0) hg
    rw [Int.zero_mul] at this
    exact this
  have c2 : t * g > 0 ↔ t > 0 := by
    have := lt_g (x := 0) (y := t) hg
    rw [Int.zero_mul] at this
    exact this
  have c3 : 2 * (t % b * g) < b * g ↔ 2 * (t % b) < b := by
    rw [← Int.mul_assoc]
    exact lt_g hg
  have c4 : b * g < 2 * (t % b * g) ↔ b < 2 * (t % b) := by
    rw [← Int.mul_assoc]
    exact lt_g hg
  cases m <;> simp only [lawR, e1, e2, c0, c1, c2, c3, c4]
theorem lawR_eq (m : Mn) {t b x y : Int} (hb : 0 < b) (hy : 0 < y) (h : x * b = t * y) : lawR m x y = lawR m t b := by
  rw [← lawR_mul m hy hb, h, Int.mul_comm y b, lawR_mul m hb hy]
/-- how far off -/
theorem lawR_off (m : Mn) {t b : Int} (hb : 0 < b) : -b ≤ lawR m t b * b - t ∧ lawR m t b * b - t ≤ b := by
  obtain ⟨e, r0, r1⟩ := dm t hb
  have key : ∀ q' : Int, (q' = t / b ∨ q' = t / b + 1) → -b ≤ q' * b - t ∧ q' * b - t ≤ b := fun q' h => by
    generalize t / b = q at *
    generalize t % b = r at *
    rcases h with rfl | rfl
    · omega
    · rw [Int.add_mul, Int.one_mul]
      omega
  refine key _ ?_
  clear key
  cases m <;> simp only [lawR] <;> (generalize t / b = q at *) <;> (repeat' split) <;> (first | omega | exact .inl trivial)
theorem lawR_near {m : Mn} {t b : Int} (hb : 0 < b) (hm : m = .half ∨ m = .even ∨ m = .far) : -b ≤ 2 * (lawR m t b * b - t) ∧ 2 * (lawR m t b * b - t) ≤ b := by
  obtain ⟨e, r0, r1⟩ := dm t hb
  have key : ∀ q' : Int, ((q' = t / b ∧ 2 * (t % b) ≤ b) ∨ (q' = t / b + 1 ∧ b ≤ 2 * (t % b))) → -b ≤ 2 * (q' * b - t) ∧ 2 * (q' * b - t) ≤ b := fun q' h => by
    generalize t / b = q at *
    generalize t % b = r at *
    rcases h with ⟨rfl, h⟩ | ⟨rfl, h⟩
    · omega
    · rw [Int.add_mul, Int.one_mul]
      omega
  refine key _ ?_
  clear key
  rcases hm with rfl | rfl | rfl <;> simp only [lawR] <;> (generalize t / b = q at *) <;> (repeat' split) <;> omega

def spRnd (g : Int → Int → Int) : Sp := fun vs H Q _ => ∃ t b : Int, vs = [.int t, .int b] ∧ 0 < b ∧ t.natAbs < 2 ^ 910000 ∧ b.natAbs < 2 ^ 4000 ∧ Q (.int (g t b)) H
structure Mans (P : Program) (w : World) (K : PySem.W.Frag) (mg : Str → Option Value) (base : Heap) (dM : Addr) (es : Array DictEntry) (n : Nat) : Prop where
  gm : mg "MANNERS" = some (.ref dM)
  D : KDict K w dM es n
  at_ : ∀ m : Mn, ∃ (f : Addr) (fd : FuncData), PySem.W.nsIn K dM m.str = some (some (.ref f)) ∧ PySem.W.keepIn K (.ref f) = true ∧ Binds K fd ["top", "bottom"] [] ∧ FnOk P w K mg base CX0 2 f fd ["top", "bottom"] (spRnd m.f)
/-- whether a thing is a manner -/
def MannerIs (K : PySem.W.Frag) (H : Hp) (dM : Addr) (x : V) (b : Bool) : Prop := (∃ m : Mn, x = .str m.str ∧ b = true) ∨ (∃ z : Str, x = .str z ∧ PySem.W.nsIn K dM z = some none ∧ b = false) ∨ (b = false ∧ ∃ t : String, TyX K H x (.type t) ∧ kitB t "str" = some false)
def spManner (K : PySem.W.Frag) (dM : Addr) : Sp := fun vs H Q _ => ∃ (x : V) (b : Bool), vs = [x] ∧ MannerIs K H dM x b ∧ Q (.bl b) H
def spRounded (K : PySem.W.Frag) : Sp := fun vs H Q _ => ∃ (a : Addr) (m : Mn) (t b : Int), vs = [.ref a, .str m.str] ∧ SqT K H a [.int t, .int b] ∧ 0 < b ∧ t.natAbs < 2 ^ 910000 ∧ b.natAbs < 2 ^ 4000 ∧ Q (.int (m.f t b)) H
theorem two_b {b : Int} (h : b.natAbs < 2 ^ 4000) : (2 * b).natAbs < 2 ^ 4001 := by
  rw [Int.natAbs_mul, Nat.pow_succ, Nat.mul_comm]
  exact Nat.mul_lt_mul_of_pos_right h (by decide)
theorem half_le {t b : Int} (ht : t.natAbs < 2 ^ 910000) (hb : b.natAbs < 2 ^ 4000) : (fHalf t b).natAbs < 2 ^ 910003 := by
  unfold fHalf
  refine Nat.lt_of_le_of_lt (Int.natAbs_ediv_le_natAbs _ _) ?_
  have h1 : (2 * t + b).natAbs ≤ 2 * t.natAbs + b.natAbs := by omega
  have e3 : ∀ m : Nat, 2 ^ (m + 3) = 2 ^ m * 8 := fun m => Nat.pow_add 2 m 3
  have e : 2 ^ 910003 = 2 ^ 910000 * 8 := by
    rw [show (910003 : Nat) = 910000 + 3 from rfl]
    exact e3 _
  have hb := up hb (show 4000 ≤ 910000 by omega)
  rw [e]
  generalize 2 ^ 910000 = N at *
  omega
section
variable {P : Program} {w : World} {K : PySem.W.Frag} {mg : Str → Option Value} {base : Heap}
theorem sc_downward : FnScope ["top", "bottom"] ["top", "bottom"] (defScope s_downward) := ⟨rfl, rfl, rfl, by decide +kernel, rfl, by decide +kernel, by decide +kernel⟩
theorem ok_downward {f : Addr} {fd : FuncData} {k : Nat} (F : Fun K "downward" "downward" s_downward f fd) : FnOk P w K mg base CX0 (k + 1) f fd ["top", "bottom"] (spRnd fDown) := by
  refine F.ok sc_downward (fun vs H Q E h => ?_) (fun cdv A outer s H vs Q E hr h => ?_)
  · obtain ⟨t, b, rfl, _⟩ := h
    rfl
  · obtain ⟨t, b, rfl, hb, ht, hl, q⟩ := h
    refine ⟨_, (pss_one (ps_ret (pe_op op_fdivW (pv 0) (pv 1)))), ?_⟩
    exact ⟨_, rfl, _, rfl, _, _, rfl, rfl, wide_div hb hl (by decide) (by decide), q⟩
theorem sc_upward : FnScope ["top", "bottom"] ["top", "bottom"] (defScope s_upward) := ⟨rfl, rfl, rfl, by decide +kernel, rfl, by decide +kernel, by decide +kernel⟩
theorem ok_upward {f : Addr} {fd : FuncData} {k : Nat} (F : Fun K "upward" "upward" s_upward f fd) : FnOk P w K mg base CX0 (k + 1) f fd ["top", "bottom"] (spRnd fUp) := by
  refine F.ok sc_upward (fun vs H Q E h => ?_) (fun cdv A outer s H vs Q E hr h => ?_)
  · obtain ⟨t, b, rfl, _⟩ := h
    rfl
  · obtain ⟨t, b, rfl, hb, ht, hl, q⟩ := h
    refine ⟨_, (pss_one (ps_ret (pe_un un_neg (pe_op op_fdivW (pe_un un_neg (pv 0)) (pv 1))))), ?_⟩
    exact ⟨_, rfl, _, rfl, _, rfl, _, _, rfl, rfl, wide_div hb hl (by decide) (by decide), _, rfl, q⟩
theorem sc_inward : FnScope ["top", "bottom"] ["top", "bottom"] (defScope s_inward) := ⟨rfl, rfl, rfl, by decide +kernel, rfl, by decide +kernel, by decide +kernel⟩
theorem ok_inward {f : Addr} {fd : FuncData} (F : Fun K "inward" "inward" s_inward f fd) (c_downward : Cal P w K mg base 1 "downward" ["top", "bottom"] (spRnd fDown)) (c_upward : Cal P w K mg base 1 "upward" ["top", "bottom"] (spRnd fUp)) : FnOk P w K mg base CX0 2 f fd ["top", "bottom"] (spRnd fIn) := by
  refine F.ok sc_inward (fun vs H Q E h => ?_) (fun cdv A outer s H vs Q E hr h => ?_)
  · obtain ⟨t, b, rfl, _⟩ := h
    rfl
  · obtain ⟨t, b, rfl, hb, ht, hl, q⟩ := h
    refine ⟨_, (pss_one (ps_ret (pe_ifExp (pt_cmpR op_gt (pv 0) pe_int (nomark _)) (pe_cal c_downward hr (pa_cons (pv 0) (pa_cons (pv 1) pa_nil))) (pe_cal c_upward hr (pa_cons (pv 0) (pa_cons (pv 1) pa_nil)))))), ?_⟩
    refine ⟨_, rfl, _, _, rfl, rfl, _, rfl, ite2 (fun c => ?_) (fun c => ?_)⟩
    · refine ⟨_, rfl, _, rfl, t, b, rfl, hb, ht, hl, ?_⟩
      have hc : t > 0 := toB c
      unfold fIn at q
      rw [if_pos hc] at q
      exact q
    · refine ⟨_, rfl, _, rfl, t, b, rfl, hb, ht, hl, ?_⟩
      have hc : ¬ t > 0 := toNB c
      unfold fIn at q
      rw [if_neg hc] at q
      exact q
theorem sc_outward : FnScope ["top", "bottom"] ["top", "bottom"] (defScope s_outward) := ⟨rfl, rfl, rfl, by decide +kernel, rfl, by decide +kernel, by decide +kernel⟩
theorem ok_outward {f : Addr} {fd : FuncData} (F : Fun K "outward" "outward" s_outward f fd) (c_downward : Cal P w K mg base 1 "downward" ["top", "bottom"] (spRnd fDown)) (c_upward : Cal P w K mg base 1 "upward" ["top", "bottom"] (spRnd fUp)) : FnOk P w K mg base CX0 2 f fd ["top", "bottom"] (spRnd fOut) := by
  refine F.ok sc_outward (fun vs H Q E h => ?_) (fun cdv A outer s H vs Q E hr h => ?_)
  · obtain ⟨t, b, rfl, _⟩ := h
    rfl
  · obtain ⟨t, b, rfl, hb, ht, hl, q⟩ := h
    refine ⟨_, (pss_one (ps_ret (pe_ifExp (pt_cmpR op_gt (pv 0) pe_int (nomark _)) (pe_cal c_upward hr (pa_cons (pv 0) (pa_cons (pv 1) pa_nil))) (pe_cal c_downward hr (pa_cons (pv 0) (pa_cons (pv 1) pa_nil)))))), ?_⟩
    refine ⟨_, rfl, _, _, rfl, rfl, _, rfl, ite2 (fun c => ?_) (fun c => ?_)⟩
    · refine ⟨_, rfl, _, rfl, t, b, rfl, hb, ht, hl, ?_⟩
      have hc : t > 0 := toB c
      unfold fOut at q
      rw [if_pos hc] at q
      exact q
    · refine ⟨_, rfl, _, rfl, t, b, rfl, hb, ht, hl, ?_⟩
      have hc : ¬ t > 0 := toNB c
      unfold fOut at q
      rw [if_neg hc] at q
      exact q
theorem sc_nearest_greater : FnScope ["top", "bottom"] ["top", "bottom"] (defScope s_nearest_greater) := ⟨rfl, rfl, rfl, by decide +kernel, rfl, by decide +kernel, by decide +kernel⟩
theorem ok_nearest_greater {f : Addr} {fd : FuncData} {k : Nat} (F : Fun K "nearest_greater" "nearest_greater" s_nearest_greater f fd) : FnOk P w K mg base CX0 (k + 1) f fd ["top", "bottom"] (spRnd fHalf) := by
  refine F.ok sc_nearest_greater (fun vs H Q E h => ?_) (fun cdv A outer s H vs Q E hr h => ?_)
  · obtain ⟨t, b, rfl, _⟩ := h
    rfl
  · obtain ⟨t, b, rfl, hb, ht, hl, q⟩ := h
    refine ⟨_, (pss_one (ps_ret (pe_op op_fdivW (pe_op op_add (pe_op op_mul pe_int (pv 0)) (pv 1)) (pe_op op_mul pe_int (pv 1))))), ?_⟩
    exact ⟨_, rfl, _, _, rfl, rfl, .inl ⟨by decide, by decide⟩, _, rfl, _, _, rfl, rfl, _, rfl, _, _, rfl, rfl, .inl ⟨by decide, by decide⟩, _, _, rfl, rfl, wide_div (by omega) (two_b hl) (by decide) (by decide), q⟩
theorem sc_nearest_even : FnScope ["top", "bottom", "near", "halfway"] ["top", "bottom"] (defScope s_nearest_even) := ⟨rfl, rfl, rfl, by decide +kernel, rfl, by decide +kernel, by decide +kernel⟩
theorem ok_nearest_even {f : Addr} {fd : FuncData} (F : Fun K "nearest_even" "nearest_even" s_nearest_even f fd) (c_nearest_greater : Cal P w K mg base 1 "nearest_greater" ["top", "bottom"] (spRnd fHalf)) : FnOk P w K mg base CX0 2 f fd ["top", "bottom"] (spRnd fEven) := by
  refine F.ok sc_nearest_even (fun vs H Q E h => ?_) (fun cdv A outer s H vs Q E hr h => ?_)
  · obtain ⟨t, b, rfl, _⟩ := h
    rfl
  · obtain ⟨t, b, rfl, hb, ht, hl, q⟩ := h
    have hn := half_le ht hl
    refine ⟨_, (pss_cons (ps_set (i := 2) sc_nearest_even.nd rfl (.inl rfl) (pe_cal c_nearest_greater hr (pa_cons (pv 0) (pa_cons (pv 1) pa_nil))))
      (pss_cons (ps_set (i := 3) sc_nearest_even.nd rfl (.inl rfl) (pe_cmpR op_eq (pe_op op_mul pe_int (pe_op op_sub (pe_op op_mulW (pv 2) (pv 1)) (pv 0))) (pv 1) (nomark _)))
      (pss_one (ps_ret (pe_ifExp (PW.pt (pw_and (pt_val (pv 3)) (pw_and1 (pt_truth (pe_op op_and (pv 2) pe_int) (by intro _; rfl))))) (pe_op op_sub (pv 2) pe_int) (pv 2)))))), ?_⟩
    refine ⟨_, rfl, _, rfl, t, b, rfl, hb, ht, hl, ?_⟩
    unfold fEven at q
    generalize fHalf t b = n at *
    refine ⟨_, rfl, _, rfl, _, _, rfl, rfl, wide_mul hn hl (by decide) (by decide) (by decide), _, rfl, _, _, rfl, rfl, _, _, rfl, rfl, .inl ⟨by decide, by decide⟩, _, rfl, rfl, ?_⟩
    have eB : (decide (V.int (2 * (n * b - t)) = V.int b)) = decide (2 * (n * b - t) = b) := by
      by_cases h : 2 * (n * b - t) = b
      · rw [h, decide_eq_true rfl, decide_eq_true rfl]
      · rw [decide_eq_false h, decide_eq_false (fun z => h (V.int.inj z))]
    rw [eB]
    by_cases hc : 2 * (n * b - t) = b
    · rw [decide_eq_true hc]
      refine ⟨_, rfl, _, rfl, iteT ⟨_, rfl, _, _, rfl, rfl, _, rfl, ?_⟩⟩
      rw [PyProof.Rows.bitAnd_m1]
      by_cases h2 : n % 2 ≠ 0
      · have e : (n % 2 != 0) = true := by
          rw [bne_iff_ne]
          exact h2
        rw [e]
        rw [if_pos ⟨hc, h2⟩] at q
        exact iteT ⟨_, rfl, _, _, rfl, rfl, q⟩
      · have e : (n % 2 != 0) = false := by
          have : n % 2 = 0 := by omega
          rw [this]
          rfl
        rw [e]
        rw [if_neg (fun z => h2 z.2)] at q
        exact iteF ⟨_, rfl, q⟩
    · rw [decide_eq_false hc]
      rw [if_neg (fun z => hc z.1)] at q
      exact ⟨_, rfl, _, rfl, iteF (iteF ⟨_, rfl, q⟩)⟩
theorem sc_nearest_far : FnScope ["top", "bottom"] ["top", "bottom"] (defScope s_nearest_far) := ⟨rfl, rfl, rfl, by decide +kernel, rfl, by decide +kernel, by decide +kernel⟩
theorem ok_nearest_far {f : Addr} {fd : FuncData} (F : Fun K "nearest_far" "nearest_far" s_nearest_far f fd) (c_nearest_greater : Cal P w K mg base 1 "nearest_greater" ["top", "bottom"] (spRnd fHalf)) : FnOk P w K mg base CX0 2 f fd ["top", "bottom"] (spRnd fFar) := by
  refine F.ok sc_nearest_far (fun vs H Q E h => ?_) (fun cdv A outer s H vs Q E hr h => ?_)
  · obtain ⟨t, b, rfl, _⟩ := h
    rfl
  · obtain ⟨t, b, rfl, hb, ht, hl, q⟩ := h
    refine ⟨_, (pss_one (ps_ret (pe_ifExp (pt_cmpR op_gt (pv 0) pe_int (nomark _)) (pe_cal c_nearest_greater hr (pa_cons (pv 0) (pa_cons (pv 1) pa_nil))) (pe_un un_neg (pe_cal c_nearest_greater hr (pa_cons (pe_un un_neg (pv 0)) (pa_cons (pv 1) pa_nil))))))), ?_⟩
    refine ⟨_, rfl, _, _, rfl, rfl, _, rfl, ite2 (fun c => ?_) (fun c => ?_)⟩
    · refine ⟨_, rfl, _, rfl, t, b, rfl, hb, ht, hl, ?_⟩
      have hc : t > 0 := toB c
      unfold fFar at q
      rw [if_pos hc] at q
      exact q
    · refine ⟨_, rfl, _, rfl, _, rfl, -t, b, rfl, hb, by rw [Int.natAbs_neg]; exact ht, hl, _, rfl, ?_⟩
      have hc : ¬ t > 0 := toNB c
      unfold fFar at q
      rw [if_neg hc] at q
      exact q
theorem sc_is_manner : FnScope ["thing"] ["thing"] (defScope s_is_manner) := ⟨rfl, rfl, rfl, by decide +kernel, rfl, by decide +kernel, by decide +kernel⟩
theorem ok_is_manner {f : Addr} {fd : FuncData} {k : Nat} {dM : Addr} {es : Array DictEntry} {n : Nat} (M : Mans P w K mg base dM es n) (F : Fun K "is_manner" "is_manner" s_is_manner f fd) (z : Zs mg) : FnOk P w K mg base CX0 (k + 1) f fd ["thing"] (spManner K dM) := by
  refine F.ok sc_is_manner (fun vs H Q E h => ?_) (fun cdv A outer s H vs Q E hr h => ?_)
  · obtain ⟨x, b, rfl, _⟩ := h
    rfl
  · obtain ⟨x, b, rfl, hm, q⟩ := h
    refine ⟨_, (pss_one (ps_ret (pe_and (pe_callB call_isi (by rfl) z.isinstance (by decide +kernel) (pa_cons (pv 0) (pa_cons (pe_bltn (v := .ty "str") (by rfl) z.str (by decide +kernel) rfl) pa_nil))) (pe_one (pe_cmpR (op_in_kd M.D) (pv 0) (pe_glob (v := .ref dM) (by rfl) M.gm rfl) (by rfl)))))), ?_⟩
    rcases hm with ⟨m, rfl, rfl⟩ | ⟨y, rfl, ny, rfl⟩ | ⟨rfl, t, ty, kt⟩
    · obtain ⟨fm, fdm, h1, _⟩ := M.at_ m
      exact ⟨_, rfl, _, .ty "str", _, _, true, rfl, .ty _, .base (.str _), kit_ty (by decide +kernel), _, rfl, iteT ⟨_, rfl, _, _, rfl, rfl, h1, q⟩⟩
    · exact ⟨_, rfl, _, .ty "str", _, _, true, rfl, .ty _, .base (.str _), kit_ty (by decide +kernel), _, rfl, iteT ⟨_, rfl, _, _, rfl, rfl, ny, q⟩⟩
    · exact ⟨_, rfl, _, .ty "str", _, _, false, rfl, .ty _, ty, kit_ty kt, _, rfl, iteF q⟩
theorem sc_rounded : FnScope ["value", "manner", "top", "bottom", "rule"] ["value", "manner"] (defScope s_rounded) := ⟨rfl, rfl, rfl, by decide +kernel, rfl, by decide +kernel, by decide +kernel⟩
theorem ok_rounded {f : Addr} {fd : FuncData} {dvs : List V} {dM : Addr} {es : Array DictEntry} {n : Nat} (M : Mans P w K mg base dM es n) (F : FunD K "rounded" "rounded" (defArgs s_rounded) (defBody s_rounded) (defScope s_rounded) dvs [] f fd) (c_is_manner : Cal P w K mg base 1 "is_manner" ["thing"] (spManner K dM)) : FnOk P w K mg base CX0 3 f fd ["value", "manner"] (spRounded K) := by
  refine F.ok sc_rounded (fun vs H Q E h => ?_) (fun cdv A outer s H vs Q E hr h => ?_)
  · obtain ⟨a, m, t, b, rfl, _⟩ := h
    rfl
  · obtain ⟨a, m, t, b, rfl, ha, hb, ht, hl, q⟩ := h
    obtain ⟨fm, fdm, h1, hK, hB, hF⟩ := M.at_ m
    refine ⟨_, PSs.nox (pss_cons (ps_if (pt_not (pt_val (pe_cal c_is_manner hr (pa_cons (pv 1) pa_nil)))) (pss_one ps_never) pss_nil)
      (pss_cons (ps_asg (pv 0) (pg_tup (by rfl) (pgs_cons (pg_name (i := 2) sc_rounded.nd rfl (.inl rfl)) (pgs_cons (pg_name (i := 3) sc_rounded.nd rfl (.inl rfl)) pgs_nil))))
      (pss_cons (ps_set (i := 4) sc_rounded.nd rfl (.inl rfl) (pe_ix ix_kdict (pe_glob (v := .ref dM) (by rfl) M.gm rfl) (pv 1) (fun _ _ => rfl)))
      (pss_one (ps_ret (pe_callL (i := 4) hF hr rfl (Or.inl rfl) hK hB .nil pass0 (pa_cons (pv 2) (pa_cons (pv 3) pa_nil)))))))), ?_⟩
    refine ⟨_, rfl, _, true, rfl, .inl ⟨m, rfl, rfl⟩, _, rfl, iteF ?_⟩
    refine ⟨_, rfl, a, _, rfl, ha, rfl, _, _, rfl, _, _, rfl, rfl, ?_⟩
    refine ⟨_, rfl, dM, m.str, .ref fm, rfl, rfl, ⟨es, n, _, M.D.at_, M.D.lit, h1, rfl⟩, ?_⟩
    exact ⟨rfl, _, rfl, _, rfl, t, b, rfl, hb, ht, hl, q⟩
end
end E1

namespace E1
open PySem PySem.Spec PyProof.Rows L2

/-! ### objects: methods, making -/
def CalM (P : Program) (w : World) (K : PySem.W.Frag) (mg : Str → Option Value) (base : Heap) (k : Nat) (C : Addr) (m : Str) (ps : List Str) (sp : Sp) : Prop :=
  ∃ (f : Addr) (fd : FuncData), Meth K C m f ∧ Binds K fd ps [] ∧ FnOk P w K mg base CX0 k f fd ps sp
def CalMK (P : Program) (w : World) (K : PySem.W.Frag) (mg : Str → Option Value) (base : Heap) (k : Nat) (C : Addr) (m : Str) (ps ks : List Str) (gV : List V → List V → List V) (sp : Sp) : Prop :=
  ∃ (f : Addr) (fd : FuncData) (g : List Value → List Value → List Value), Meth K C m f ∧ KBn K fd ps 1 ks g gV ∧ FnOk P w K mg base CX0 k f fd ps sp
def CalC (P : Program) (w : World) (K : PySem.W.Frag) (mg : Str → Option Value) (base : Heap) (k : Nat) (x : Str) (C : Addr) (ps : List Str) (dvs : List V) (sp : Sp) : Prop :=
  ∃ (f : Addr) (fd : FuncData) (ds : List Value), Mk K C f ∧ mg x = some (.ref C) ∧ Vals dvs ds ∧ Binds K fd ps ds ∧ FnOk P w K mg base CX0 k f fd ps sp
section
variable {X : Cx} {k j : Nat} {C : Addr} {m x : Str} {ps ks : List Str} {dvs : List V} {sp : Sp} {o e : Expr} {es : List Expr} {ta : TE} {t tk : TA} {apos p pos : Pos} {gV : List V → List V → List V} {kws : List Keyword}
theorem pe_calm {pl : Sem Bool} (he : PE X o ta) (c : Cls X.K C) (h : CalM X.prog X.w X.K X.mg X.base k C m ps sp) (hr : Room j X.A) (ha : PA X (e :: es) t) (hle : k ≤ j := by decide)
    (hst : starEach (e :: es) X.env = (false, eval e X.env) :: starEach es X.env := by rfl) (hpl : (backTo pos (starEach es X.env)).any (·.1) = false := by rfl)
    (ht : eval (.Call (.Attribute o m apos) (e :: es) [] pos) X.env = (do
      let ov ← eval o X.env
      standAt apos.atName
      let (f, first) ← holding [ov] (getMethod ov m pl)
      callWith pos f first (backTo pos (starEach (e :: es) X.env)) (backToKw pos (keywordEach [] X.env))) := by rfl) :
    PE X (.Call (.Attribute o m apos) (e :: es) [] pos) (tMeth C m sp [] E0 ta t) := by
  obtain ⟨f, fd, h1, h2, h3⟩ := h
  exact pe_meth he c h1 h3 (hr.mono hle) h2 .nil pass0 ha hst hpl ht
theorem pe_calm0 {pl : Sem Bool} (he : PE X o ta) (c : Cls X.K C) (h : CalM X.prog X.w X.K X.mg X.base k C m ps sp) (hr : Room j X.A) (hle : k ≤ j := by decide)
    (ht : eval (.Call (.Attribute o m apos) [] [] pos) X.env = (do
      let ov ← eval o X.env
      standAt apos.atName
      let (f, first) ← holding [ov] (getMethod ov m pl)
      callWith pos f first (backTo pos (starEach [] X.env)) (backToKw pos (keywordEach [] X.env))) := by rfl) :
    PE X (.Call (.Attribute o m apos) [] [] pos) (tMeth C m sp [] E0 ta tNil) := by
  obtain ⟨f, fd, h1, h2, h3⟩ := h
  exact pe_meth0 he c h1 h3 (hr.mono hle) h2 .nil pass0 ht
def tMethK (C : Addr) (m : Str) (n : Nat) (sp : Sp) (gV : List V → List V → List V) (ta : TE) (tk : TA) : TE := fun σ H Q => ta σ H fun x H1 => ∃ a dx fs, x = .ref a ∧ H1 a = some (.ins C dx fs) ∧ fs.lookup m = none ∧
  tk σ H1 fun zs H2 => zs.length = n ∧ sp (gV [x] zs) H2 Q E0
theorem pe_calmk0 {pl : Sem Bool} (he : PE X o ta) (c : Cls X.K C) (h : CalMK X.prog X.w X.K X.mg X.base k C m ps ks gV sp) (hr : Room j X.A) (hkw : PK X kws tk) (hle : k ≤ j := by decide)
    (hall : (backToKw pos (keywordEach kws X.env)).all (·.1.isSome) = true := by rfl) (hks : (backToKw pos (keywordEach kws X.env)).filterMap (·.1) = ks := by rfl)
    (hpl : ((backTo pos (starEach [] X.env)).any (·.1) || (backToKw pos (keywordEach kws X.env)).any (·.1.isNone)) = false := by rfl)
    (ht : eval (.Call (.Attribute o m apos) [] kws pos) X.env = (do
      let ov ← eval o X.env
      standAt apos.atName
      let (f, first) ← holding [ov] (getMethod ov m pl)
      callWith pos f first (backTo pos (starEach [] X.env)) (backToKw pos (keywordEach kws X.env))) := by rfl) :
    PE X (.Call (.Attribute o m apos) [] kws pos) (tMethK C m ks.length sp gV ta tk) := by
  obtain ⟨f, fd, g, hm, hb, F⟩ := h
  refine ⟨fun pins s σ H Q I h => ?_⟩
  refine PySem.W.methodCall_KW (pl := pl) (thn (he.run pins s σ H _ I h) fun u s1 ⟨x, H1, I1, rx, a, dx, fs, ex, ea, l, q⟩ => ?_) ht
  subst ex
  obtain rfl : u = Value.ref a := rx
  refine getmeth_ok I1 ea c hm l ?_
  refine PySem.W.callWith_KW0 (first := [.ref a]) (h₀ := X.base) I.ok.mod.kin hm.kp hall (thn (hkw.run pos pins s1 σ H1 _ I1 q) fun ws s2 ⟨zs, H2, I2, rz, l2, q2⟩ => ⟨I2.kIn, ?_⟩) hpl
  rw [hks]
  exact run_fnN (vs := [.ref a]) (us := [.ref a]) F (hr.mono hle) hb pass0 I2 (.cons rfl .nil) rz rfl l2 q2
theorem pe_calc (h : CalC X.prog X.w X.K X.mg X.base k x C ps dvs sp) (hr : Room j X.A) (ha : PA X (e :: es) t) (hle : k + 1 ≤ j := by decide) (hg : Gl X x := by rfl)
    (hdb : (x == ("__debug__" : Str)) = false := by decide) (he : starEach (e :: es) X.env = (false, eval e X.env) :: starEach es X.env := by rfl) (hpl : (backTo pos (starEach es X.env)).any (·.1) = false := by rfl) :
    PE X (.Call (.Name x p) (e :: es) [] pos) (tMake C sp dvs E0 t) := by
  obtain ⟨f, fd, ds, h1, h2, h3, h4, h5⟩ := h
  exact pe_make h1 h5 (hr.mono hle) hg h2 h4 h3 pass0 ha hdb he hpl
end
/-! ### forms -/
def wV : Option Int → V
  | none => .non
  | some w => .int w
def endS : Bool → Str
  | true => "stop"
  | false => "wrap"
def flds (w : Option Int) (pt : Int) (m : Mn) (st : Bool) : List (Str × V) := [("width", wV w), ("point", .int pt), ("manner", .str m.str), ("ends", .str (endS st))]
def WOk (w : Option Int) : Prop := ∀ x, w = some x → 2 ≤ x ∧ x ≤ 64
structure FormAt (C : Addr) (H : Hp) (p : Addr) (w : Option Int) (pt : Int) (m : Mn) (st : Bool) : Prop where
  ob : ∃ dx, H p = some (.ins C dx (flds w pt m st))
  wo : WOk w
  p0 : -64 ≤ pt
  p1 : pt ≤ 64
theorem FormAt.same {C : Addr} {H H' : Hp} {p : Addr} {w : Option Int} {pt : Int} {m : Mn} {st : Bool} (f : FormAt C H p w pt m st) (s : Same H H') : FormAt C H' p w pt m st := by
  obtain ⟨⟨dx, h⟩, a, b, c⟩ := f
  exact ⟨⟨dx, s _ _ h⟩, a, b, c⟩
theorem nPW : (("point" : Str) == "width") = false := by decide +kernel
theorem nMW : (("manner" : Str) == "width") = false := by decide +kernel
theorem nMP : (("manner" : Str) == "point") = false := by decide +kernel
theorem nEW : (("ends" : Str) == "width") = false := by decide +kernel
theorem nEP : (("ends" : Str) == "point") = false := by decide +kernel
theorem nEM : (("ends" : Str) == "manner") = false := by decide +kernel
section
variable {w : Option Int} {pt : Int} {m : Mn} {st : Bool}
theorem fl_w : (flds w pt m st).lookup ("width" : Str) = some (wV w) := by
  unfold flds
  rw [List.lookup_cons, beq_self_eq_true]
theorem fl_p : (flds w pt m st).lookup ("point" : Str) = some (.int pt) := by
  unfold flds
  rw [List.lookup_cons, nPW, List.lookup_cons, beq_self_eq_true]
theorem fl_m : (flds w pt m st).lookup ("manner" : Str) = some (.str m.str) := by
  unfold flds
  rw [List.lookup_cons, nMW, List.lookup_cons, nMP, List.lookup_cons, beq_self_eq_true]
theorem fl_e : (flds w pt m st).lookup ("ends" : Str) = some (.str (endS st)) := by
  unfold flds
  rw [List.lookup_cons, nEW, List.lookup_cons, nEP, List.lookup_cons, nEM, List.lookup_cons, beq_self_eq_true]
theorem fl_no {x : Str} (h : [(x == "width"), (x == "point"), (x == "manner"), (x == "ends")] = [false, false, false, false]) : (flds w pt m st).lookup x = none := by
  have h1 : (x == "width") = false := (List.cons.inj h).1
  have h2 : (x == "point") = false := (List.cons.inj (List.cons.inj h).2).1
  have h3 : (x == "manner") = false := (List.cons.inj (List.cons.inj (List.cons.inj h).2).2).1
  have h4 : (x == "ends") = false := (List.cons.inj (List.cons.inj (List.cons.inj (List.cons.inj h).2).2).2).1
  unfold flds
  rw [List.lookup_cons, h1, List.lookup_cons, h2, List.lookup_cons, h3, List.lookup_cons, h4]
  rfl
theorem ne_of_beq {a b : Str} (h : (b == a) = false) : ¬ a = b := fun e => by
  rw [e, beq_self_eq_true] at h
  cases h
theorem fl_put {a b c d : V} : putF "ends" d (putF "manner" c (putF "point" b (putF "width" a []))) = [(("width" : Str), a), ("point", b), ("manner", c), ("ends", d)] := by
  simp only [putF, if_neg (ne_of_beq nPW), if_neg (ne_of_beq nMW), if_neg (ne_of_beq nMP), if_neg (ne_of_beq nEW), if_neg (ne_of_beq nEP), if_neg (ne_of_beq nEM)]
end
/-- what the walk asks of the class and of the module's constants -/
structure FTxt (K : PySem.W.Frag) (mg : Str → Option Value) (C : Addr) : Prop where
  cl : Cls K C
  nW : NoAttr K C "width"
  nP : NoAttr K C "point"
  nM : NoAttr K C "manner"
  nE : NoAttr K C "ends"
structure FCst (K : PySem.W.Frag) (mg : Str → Option Value) (aE : Addr) : Prop where
  lw : ∃ t, mg "LEAST_WIDTH" = some (.int 2 t)
  gw : ∃ t, mg "GREATEST_WIDTH" = some (.int 64 t)
  gp : ∃ t, mg "GREATEST_POINT" = some (.int 64 t)
  e : mg "ENDS" = some (.ref aE)
  eT : ∀ H, SqT K H aE [.str "wrap", .str "stop"]
def two (n : Int) : Int := 2 ^ n.toNat
def lst (x : Int) : Int := -(two (x - 1))
def grt (x : Int) : Int := two (x - 1) - 1
def lstV : Option Int → V
  | none => .non
  | some x => .int (lst x)
def grtV : Option Int → V
  | none => .non
  | some x => .int (grt x)
def inR : Option Int → Int → Bool
  | none, _ => true
  | some x, n => decide (lst x ≤ n) && decide (n ≤ grt x)
def nearB : Mn → Bool
  | .half => true
  | .even => true
  | .far => true
  | _ => false
/-- the word as which a whole number of steps is kept -/
def wordF (w : Option Int) (st : Bool) (n : Int) : Int := match w with
  | none => n
  | some x => if inR (some x) n = true then n else if st = true then (if n < 0 then lst x else grt x) else (n - lst x) % two x + lst x
def spWidth : Sp := fun vs H Q _ => ∃ w : Option Int, vs = [wV w] ∧ WOk w ∧ Q (.bl true) H
def spPoint : Sp := fun vs H Q _ => ∃ p : Int, vs = [.int p] ∧ -64 ≤ p ∧ p ≤ 64 ∧ Q (.bl true) H
def spEnds : Sp := fun vs H Q _ => ∃ st : Bool, vs = [.str (endS st)] ∧ Q (.bl true) H
def spInit (C : Addr) : Sp := fun vs H Q _ => ∃ (p dx : Addr) (w : Option Int) (pt : Int) (m : Mn) (st : Bool), vs = [.ref p, wV w, .int pt, .str m.str, .str (endS st)] ∧ WOk w ∧ -64 ≤ pt ∧ pt ≤ 64 ∧ H p = some (.ins C dx []) ∧
  ∀ H', FormAt C H' p w pt m st → (∀ b o, b ≠ p → H b = some o → H' b = some o) → (∀ b, b ≠ p → H b = none → H' b = none) → Q .non H'
def spF (C : Addr) (r : Option Int → Int → Mn → Bool → Hp → VK → Prop) : Sp := fun vs H Q _ => ∃ (p : Addr) (w : Option Int) (pt : Int) (m : Mn) (st : Bool), vs = [.ref p] ∧ FormAt C H p w pt m st ∧ r w pt m st H Q
def spLeast (C : Addr) : Sp := spF C fun w _ _ _ H Q => Q (lstV w) H
def spGreatest (C : Addr) : Sp := spF C fun w _ _ _ H Q => Q (grtV w) H
def spStep (C : Addr) : Sp := spF C fun _ pt _ _ H Q => ∀ p, H p = none → Q (.ref p) (upd H p (.tup [.int (twoT (-pt)), .int (twoB (-pt))]))
def spSlack (C : Addr) : Sp := spF C fun _ _ m _ H Q => ∀ p, H p = none → Q (.ref p) (upd H p (.tup [.int 1, .int (if nearB m = true then 2 else 1)]))
def spHas (K : PySem.W.Frag) (C : Addr) : Sp := fun vs H Q _ => ∃ (p : Addr) (w : Option Int) (pt : Int) (m : Mn) (st : Bool) (x : V) (b : Bool), vs = [.ref p, x] ∧ FormAt C H p w pt m st ∧ ((∃ n, x = .int n ∧ b = inR w n) ∨ (WholeIs K H x false ∧ b = false)) ∧ Q (.bl b) H
def spWord (C : Addr) : Sp := fun vs H Q _ => ∃ (p : Addr) (w : Option Int) (pt : Int) (m : Mn) (st : Bool) (n : Int), vs = [.ref p, .int n] ∧ FormAt C H p w pt m st ∧ Q (.int (wordF w st n)) H
/-- how many steps a value is, rounded -/
def steps (pt : Int) (m : Mn) (t b : Int) : Int := m.f (lowT (t * twoB (-pt)) (b * twoT (-pt))) (lowB (t * twoB (-pt)) (b * twoT (-pt)))
def spKept (K : PySem.W.Frag) (C : Addr) : Sp := fun vs H Q _ => ∃ (p : Addr) (w : Option Int) (pt : Int) (m : Mn) (st : Bool) (a : Addr) (t b : Int), vs = [.ref p, .ref a] ∧ FormAt C H p w pt m st ∧ SqT K H a [.int t, .int b] ∧ 0 < b ∧ t.natAbs < 2 ^ 1500 ∧ b.natAbs < 2 ^ 1500 ∧
  ∀ (r : Addr) (H' : Hp), H r = none → Same H H' → H' r = some (.tup [.int (wordF w st (steps pt m t b)), .int (steps pt m t b - wordF w st (steps pt m t b))]) → Q (.ref r) H'
theorem two_pos (n : Int) : 0 < two n := by
  unfold two
  exact Int.pow_pos (by decide)
theorem twoT_pos (n : Int) : 0 < twoT n := by
  unfold twoT
  split
  · decide
  · exact Int.pow_pos (by decide)
theorem twoB_pos (n : Int) : 0 < twoB n := by
  unfold twoB
  split
  · exact Int.pow_pos (by decide)
  · decide
theorem two_lt {n : Int} {k : Nat} (h : n.toNat < k) : (2 ^ n.toNat : Int).natAbs < 2 ^ k := by
  rw [Int.natAbs_pow]
  exact Nat.pow_lt_pow_right (by decide) h
theorem twoT_lt {n : Int} (h1 : n ≤ 64) : (twoT n).natAbs < 2 ^ 65 := by
  unfold twoT
  split
  · decide
  · exact two_lt (by omega)
theorem twoB_lt {n : Int} (h1 : -64 ≤ n) : (twoB n).natAbs < 2 ^ 65 := by
  unfold twoB
  split
  · exact two_lt (by omega)
  · decide
theorem low_pos' {t b : Int} (hb : b ≠ 0) : 0 < lowB t b := by
  have g0 := gI_pos (t := t) hb
  have g1 := gI_le (t := t) hb
  have : 1 ≤ lowB t b := by
    unfold lowB
    refine (Int.le_ediv_iff_mul_le g0).mpr ?_
    split <;> omega
  omega
theorem lowT_le {t b : Int} : (lowT t b).natAbs ≤ t.natAbs := by
  unfold lowT
  refine Nat.le_trans (Int.natAbs_ediv_le_natAbs _ _) ?_
  split <;> omega
theorem lowB_le {t b : Int} : (lowB t b).natAbs ≤ b.natAbs := by
  unfold lowB
  refine Nat.le_trans (Int.natAbs_ediv_le_natAbs _ _) ?_
  split <;> omega
section
variable {P : Program} {w : World} {K : PySem.W.Frag} {mg : Str → Option Value} {base : Heap}
theorem sc_is_width : FnScope ["thing"] ["thing"] (defScope s_is_width) := ⟨rfl, rfl, rfl, by decide +kernel, rfl, by decide +kernel, by decide +kernel⟩
theorem ok_is_width {f : Addr} {fd : FuncData} {aE : Addr} (Z : FCst K mg aE) (F : Fun K "is_width" "is_width" s_is_width f fd) (c_is_whole : Cal P w K mg base 1 "is_whole" ["thing"] (spWhole K)) : FnOk P w K mg base CX0 2 f fd ["thing"] spWidth := by
  refine F.ok sc_is_width (fun vs H Q E h => ?_) (fun cdv A outer s H vs Q E hr h => ?_)
  · obtain ⟨w, rfl, _⟩ := h
    rfl
  · obtain ⟨w, rfl, hw, q⟩ := h
    obtain ⟨_, gLW⟩ := Z.lw
    obtain ⟨_, gGW⟩ := Z.gw
    refine ⟨_, (pss_one (ps_ret (pe_or (pe_cmpR op_isN (pv 0) pe_non (nomark _)) (pe_one (pe_and (pe_cal c_is_whole hr (pa_cons (pv 0) pa_nil)) (pe_one (pe_chain op_le op_le (pe_glob (v := .int 2) (by rfl) gLW ⟨_, rfl⟩) (pv 0) (pe_glob (v := .int 64) (by rfl) gGW ⟨_, rfl⟩)))))))), ?_⟩
    cases w with
    | none => exact ⟨_, rfl, rfl, _, rfl, iteT q⟩
    | some x =>
      obtain ⟨h1, h2⟩ := hw x rfl
      refine ⟨_, rfl, rfl, _, rfl, iteF ⟨_, rfl, _, _, rfl, .int x, _, rfl, iteT ⟨_, rfl, _, _, rfl, rfl, _, rfl, ?_⟩⟩⟩
      rw [decide_eq_true h1]
      refine iteT ⟨_, _, rfl, rfl, ?_⟩
      show Q (.bl (decide (x ≤ 64))) H
      rw [decide_eq_true h2]
      exact q
theorem sc_is_point : FnScope ["thing"] ["thing"] (defScope s_is_point) := ⟨rfl, rfl, rfl, by decide +kernel, rfl, by decide +kernel, by decide +kernel⟩
theorem ok_is_point {f : Addr} {fd : FuncData} {aE : Addr} (Z : FCst K mg aE) (F : Fun K "is_point" "is_point" s_is_point f fd) (z : Zs mg) (c_is_whole : Cal P w K mg base 1 "is_whole" ["thing"] (spWhole K)) : FnOk P w K mg base CX0 2 f fd ["thing"] spPoint := by
  refine F.ok sc_is_point (fun vs H Q E h => ?_) (fun cdv A outer s H vs Q E hr h => ?_)
  · obtain ⟨x, rfl, _⟩ := h
    rfl
  · obtain ⟨x, rfl, h1, h2, q⟩ := h
    obtain ⟨_, gGP⟩ := Z.gp
    refine ⟨_, (pss_one (ps_ret (pe_and (pe_cal c_is_whole hr (pa_cons (pv 0) pa_nil)) (pe_one (pe_cmpR op_le (pe_callB call_abs (by rfl) z.abs (by decide +kernel) (pa_cons (pv 0) pa_nil)) (pe_glob (v := .int 64) (by rfl) gGP ⟨_, rfl⟩) (nomark _)))))), ?_⟩
    refine ⟨_, rfl, _, _, rfl, .int x, _, rfl, iteT ⟨_, rfl, _, rfl, _, _, rfl, rfl, ?_⟩⟩
    show Q (.bl (decide ((if x < 0 then -x else x) ≤ 64))) H
    rw [decide_eq_true (show (if x < 0 then -x else x) ≤ 64 by split <;> omega)]
    exact q
theorem sc_is_ends : FnScope ["thing"] ["thing"] (defScope s_is_ends) := ⟨rfl, rfl, rfl, by decide +kernel, rfl, by decide +kernel, by decide +kernel⟩
theorem ok_is_ends {f : Addr} {fd : FuncData} {k : Nat} {aE : Addr} (Z : FCst K mg aE) (F : Fun K "is_ends" "is_ends" s_is_ends f fd) (z : Zs mg) : FnOk P w K mg base CX0 (k + 1) f fd ["thing"] spEnds := by
  refine F.ok sc_is_ends (fun vs H Q E h => ?_) (fun cdv A outer s H vs Q E hr h => ?_)
  · obtain ⟨st, rfl, _⟩ := h
    rfl
  · obtain ⟨st, rfl, q⟩ := h
    refine ⟨_, (pss_one (ps_ret (pe_and (pe_callB call_isi (by rfl) z.isinstance (by decide +kernel) (pa_cons (pv 0) (pa_cons (pe_bltn (v := .ty "str") (by rfl) z.str (by decide +kernel) rfl) pa_nil))) (pe_one (pe_cmpR op_in_seq (pv 0) (pe_glob (v := .ref aE) (by rfl) Z.e rfl) (by rfl)))))), ?_⟩
    refine ⟨_, rfl, _, .ty "str", _, _, true, rfl, .ty _, .base (.str _), kit_ty (by decide +kernel), _, rfl, iteT ⟨_, rfl, aE, _, rfl, .inr (Z.eT _), rfl, rfl, ?_⟩⟩
    cases st with
    | true =>
      rw [show inV (V.str (endS true)) [V.str "wrap", V.str "stop"] = true by decide +kernel]
      exact q
    | false =>
      rw [show inV (V.str (endS false)) [V.str "wrap", V.str "stop"] = true by decide +kernel]
      exact q
theorem sc_Form___init__ : FnScope ["self", "width", "point", "manner", "ends"] ["self", "width", "point", "manner", "ends"] (defScope s_Form___init__) := ⟨rfl, rfl, rfl, by decide +kernel, rfl, by decide +kernel, by decide +kernel⟩
theorem ok_Form___init__ {f : Addr} {fd : FuncData} {dM : Addr} {dvs : List V} {C : Addr} (T : FTxt K mg C) (F : FunD K "__init__" "Form.__init__" (defArgs s_Form___init__) (defBody s_Form___init__) (defScope s_Form___init__) dvs [] f fd) (c_is_width : Cal P w K mg base 2 "is_width" ["thing"] spWidth) (c_is_point : Cal P w K mg base 2 "is_point" ["thing"] spPoint) (c_is_manner : Cal P w K mg base 1 "is_manner" ["thing"] (spManner K dM)) (c_is_ends : Cal P w K mg base 1 "is_ends" ["thing"] spEnds) : FnOk P w K mg base CX0 3 f fd ["self", "width", "point", "manner", "ends"] (spInit C) := by
  refine F.ok sc_Form___init__ (fun vs H Q E h => ?_) (fun cdv A outer s H vs Q E hr h => ?_)
  · obtain ⟨p, dx, w, pt, m, st, rfl, _⟩ := h
    rfl
  · obtain ⟨p, dx, w, pt, m, st, rfl, hw, h0, h1, hp, q⟩ := h
    refine ⟨_, PSs.nox (pss_cons (ps_if (pt_not (pt_val (pe_cal c_is_width hr (pa_cons (pv 1) pa_nil)))) (pss_one ps_never) pss_nil)
      (pss_cons (ps_if (pt_not (pt_val (pe_cal c_is_point hr (pa_cons (pv 2) pa_nil)))) (pss_one ps_never) pss_nil)
      (pss_cons (ps_if (pt_not (pt_val (pe_cal c_is_manner hr (pa_cons (pv 3) pa_nil)))) (pss_one ps_never) pss_nil)
      (pss_cons (ps_if (pt_not (pt_val (pe_cal c_is_ends hr (pa_cons (pv 4) pa_nil)))) (pss_one ps_never) pss_nil)
      (pss_cons (ps_fld (pv 0) (pv 1) rfl)
      (pss_cons (ps_fld (pv 0) (pv 2) rfl)
      (pss_cons (ps_fld (pv 0) (pv 3) rfl)
      (pss_one (ps_fld (pv 0) (pv 4) rfl))))))))), ?_⟩
    refine ⟨_, rfl, w, rfl, hw, _, rfl, iteF ?_⟩
    refine ⟨_, rfl, pt, rfl, h0, h1, _, rfl, iteF ?_⟩
    refine ⟨_, rfl, _, true, rfl, .inl ⟨m, rfl, rfl⟩, _, rfl, iteF ?_⟩
    refine ⟨_, rfl, st, rfl, _, rfl, iteF ?_⟩
    refine ⟨_, rfl, _, rfl, p, C, dx, [], rfl, hp, T.cl, T.nW, (by show 0 < 1000; decide), ?_⟩
    refine ⟨_, rfl, _, rfl, p, C, dx, _, rfl, upd_same, T.cl, T.nP, (by show 1 < 1000; decide), ?_⟩
    refine ⟨_, rfl, _, rfl, p, C, dx, _, rfl, upd_same, T.cl, T.nM, ?_, ?_⟩
    · simp only [putF, if_neg (ne_of_beq nPW)]
      show 2 < 1000
      decide
    refine ⟨_, rfl, _, rfl, p, C, dx, _, rfl, upd_same, T.cl, T.nE, ?_, ?_⟩
    · simp only [putF, if_neg (ne_of_beq nPW), if_neg (ne_of_beq nMW), if_neg (ne_of_beq nMP)]
      show 3 < 1000
      decide
    refine q _ ⟨⟨dx, ?_⟩, hw, h0, h1⟩ (fun b o hb e => ?_) (fun b hb e => ?_)
    · rw [upd_same]
      exact congrArg (fun l => some (HO.ins C dx l)) fl_put
    · rw [upd_ne hb, upd_ne hb, upd_ne hb, upd_ne hb]
      exact e
    · rw [upd_ne hb, upd_ne hb, upd_ne hb, upd_ne hb]
      exact e
theorem sc_Form_least : FnScope ["self"] ["self"] (defScope s_Form_least) := ⟨rfl, rfl, rfl, by decide +kernel, rfl, by decide +kernel, by decide +kernel⟩
theorem ok_Form_least {f : Addr} {fd : FuncData} {k : Nat} {C : Addr} (T : FTxt K mg C) (F : Fun K "least" "Form.least" s_Form_least f fd) : FnOk P w K mg base CX0 (k + 1) f fd ["self"] (spLeast C) := by
  refine F.ok sc_Form_least (fun vs H Q E h => ?_) (fun cdv A outer s H vs Q E hr h => ?_)
  · obtain ⟨p, w, pt, m, st, rfl, _⟩ := h
    rfl
  · obtain ⟨p, w, pt, m, st, rfl, ⟨⟨dx, ho⟩, hw, _, _⟩, q⟩ := h
    refine ⟨_, (pss_one (ps_ret (pe_ifExp (pt_cmpR op_isN (pe_fld (pv 0) rfl) pe_non (nomark _)) pe_non (pe_un un_neg (pe_op op_shl pe_int (pe_op op_sub (pe_fld (pv 0) rfl) pe_int)))))), ?_⟩
    refine ⟨_, rfl, p, C, dx, _, _, rfl, ho, T.cl, T.nW, fl_w, rfl, _, rfl, ?_⟩
    cases w with
    | none => exact iteT q
    | some x =>
      obtain ⟨h1, h2⟩ := hw x rfl
      refine iteF ⟨_, rfl, p, C, dx, _, _, rfl, ho, T.cl, T.nW, fl_w, _, _, rfl, rfl, _, _, rfl, rfl, ⟨by omega, by omega, by decide⟩, _, rfl, ?_⟩
      have e : (1 : Int) * 2 ^ (x - 1).toNat = two (x - 1) := Int.one_mul _
      rw [e]
      exact q
theorem sc_Form_greatest : FnScope ["self"] ["self"] (defScope s_Form_greatest) := ⟨rfl, rfl, rfl, by decide +kernel, rfl, by decide +kernel, by decide +kernel⟩
theorem ok_Form_greatest {f : Addr} {fd : FuncData} {k : Nat} {C : Addr} (T : FTxt K mg C) (F : Fun K "greatest" "Form.greatest" s_Form_greatest f fd) : FnOk P w K mg base CX0 (k + 1) f fd ["self"] (spGreatest C) := by
  refine F.ok sc_Form_greatest (fun vs H Q E h => ?_) (fun cdv A outer s H vs Q E hr h => ?_)
  · obtain ⟨p, w, pt, m, st, rfl, _⟩ := h
    rfl
  · obtain ⟨p, w, pt, m, st, rfl, ⟨⟨dx, ho⟩, hw, _, _⟩, q⟩ := h
    refine ⟨_, (pss_one (ps_ret (pe_ifExp (pt_cmpR op_isN (pe_fld (pv 0) rfl) pe_non (nomark _)) pe_non (pe_op op_sub (pe_op op_shl pe_int (pe_op op_sub (pe_fld (pv 0) rfl) pe_int)) pe_int)))), ?_⟩
    refine ⟨_, rfl, p, C, dx, _, _, rfl, ho, T.cl, T.nW, fl_w, rfl, _, rfl, ?_⟩
    cases w with
    | none => exact iteT q
    | some x =>
      obtain ⟨h1, h2⟩ := hw x rfl
      refine iteF ⟨_, rfl, p, C, dx, _, _, rfl, ho, T.cl, T.nW, fl_w, _, _, rfl, rfl, _, _, rfl, rfl, ⟨by omega, by omega, by decide⟩, _, _, rfl, rfl, ?_⟩
      have e : (1 : Int) * 2 ^ (x - 1).toNat = two (x - 1) := Int.one_mul _
      rw [e]
      exact q
theorem sc_Form_has : FnScope ["self", "thing"] ["self", "thing"] (defScope s_Form_has) := ⟨rfl, rfl, rfl, by decide +kernel, rfl, by decide +kernel, by decide +kernel⟩
theorem ok_Form_has {f : Addr} {fd : FuncData} {C : Addr} (T : FTxt K mg C) (F : Fun K "has" "Form.has" s_Form_has f fd) (c_is_whole : Cal P w K mg base 1 "is_whole" ["thing"] (spWhole K)) (m_least : CalM P w K mg base 1 C "least" ["self"] (spLeast C)) (m_greatest : CalM P w K mg base 1 C "greatest" ["self"] (spGreatest C)) : FnOk P w K mg base CX0 2 f fd ["self", "thing"] (spHas K C) := by
  refine F.ok sc_Form_has (fun vs H Q E h => ?_) (fun cdv A outer s H vs Q E hr h => ?_)
  · obtain ⟨p, w, pt, m, st, x, b, rfl, _⟩ := h
    rfl
  · obtain ⟨p, w, pt, m, st, x, b, rfl, hf, hx, q⟩ := h
    obtain ⟨⟨dx, ho⟩, hw, _, _⟩ := id hf
    refine ⟨_, (pss_cons (ps_if (pt_not (pt_val (pe_cal c_is_whole hr (pa_cons (pv 1) pa_nil)))) (pss_one (ps_ret pe_bl)) pss_nil)
      (pss_one (ps_ret (pe_or (pe_cmpR op_isN (pe_fld (pv 0) rfl) pe_non (nomark _)) (pe_one (pe_chain op_le op_le (pe_calm0 (pv 0) T.cl m_least hr) (pv 1) (pe_calm0 (pv 0) T.cl m_greatest hr))))))), ?_⟩
    rcases hx with ⟨n, rfl, rfl⟩ | ⟨hx, rfl⟩
    · refine ⟨_, rfl, _, true, rfl, .int n, _, rfl, iteF ?_⟩
      refine ⟨_, rfl, p, C, dx, _, _, rfl, ho, T.cl, T.nW, fl_w, rfl, _, rfl, ?_⟩
      cases w with
      | none => exact iteT q
      | some y =>
        refine iteF ⟨_, rfl, p, dx, _, rfl, ho, fl_no (by decide +kernel), p, some y, pt, m, st, rfl, hf, _, rfl, _, _, rfl, rfl, _, rfl, ?_⟩
        by_cases c : lst y ≤ n
        · rw [decide_eq_true c]
          refine iteT ⟨_, rfl, p, dx, _, rfl, ho, fl_no (by decide +kernel), p, some y, pt, m, st, rfl, hf, _, _, rfl, rfl, ?_⟩
          have q' : Q (.bl (decide (lst y ≤ n) && decide (n ≤ grt y))) H := q
          rw [decide_eq_true c, Bool.true_and] at q'
          exact q'
        · rw [decide_eq_false c]
          refine iteF ?_
          have q' : Q (.bl (decide (lst y ≤ n) && decide (n ≤ grt y))) H := q
          rw [decide_eq_false c, Bool.false_and] at q'
          exact q'
    · exact ⟨_, rfl, _, false, rfl, hx, _, rfl, iteT q⟩
theorem sc_Form_step : FnScope ["self"] ["self"] (defScope s_Form_step) := ⟨rfl, rfl, rfl, by decide +kernel, rfl, by decide +kernel, by decide +kernel⟩
theorem ok_Form_step {f : Addr} {fd : FuncData} {C : Addr} (T : FTxt K mg C) (F : Fun K "step" "Form.step" s_Form_step f fd) (c_two_to : Cal P w K mg base 2 "two_to" ["many"] spTwoTo) : FnOk P w K mg base CX0 3 f fd ["self"] (spStep C) := by
  refine F.ok sc_Form_step (fun vs H Q E h => ?_) (fun cdv A outer s H vs Q E hr h => ?_)
  · obtain ⟨p, w, pt, m, st, rfl, _⟩ := h
    rfl
  · obtain ⟨p, w, pt, m, st, rfl, ⟨⟨dx, ho⟩, hw, h0, h1⟩, q⟩ := h
    refine ⟨_, (pss_one (ps_ret (pe_cal c_two_to hr (pa_cons (pe_un un_neg (pe_fld (pv 0) rfl)) pa_nil)))), ?_⟩
    exact ⟨_, rfl, p, C, dx, _, _, rfl, ho, T.cl, T.nP, fl_p, _, rfl, -pt, rfl, by omega, by omega, q⟩
theorem sc_Form_word_for : FnScope ["self", "number"] ["self", "number"] (defScope s_Form_word_for) := ⟨rfl, rfl, rfl, by decide +kernel, rfl, by decide +kernel, by decide +kernel⟩
theorem ok_Form_word_for {f : Addr} {fd : FuncData} {C : Addr} (T : FTxt K mg C) (F : Fun K "word_for" "Form.word_for" s_Form_word_for f fd) (m_has : CalM P w K mg base 2 C "has" ["self", "thing"] (spHas K C)) (m_least : CalM P w K mg base 1 C "least" ["self"] (spLeast C)) (m_greatest : CalM P w K mg base 1 C "greatest" ["self"] (spGreatest C)) : FnOk P w K mg base CX0 3 f fd ["self", "number"] (spWord C) := by
  refine F.ok sc_Form_word_for (fun vs H Q E h => ?_) (fun cdv A outer s H vs Q E hr h => ?_)
  · obtain ⟨p, w, pt, m, st, n, rfl, _⟩ := h
    rfl
  · obtain ⟨p, w, pt, m, st, n, rfl, hf, q⟩ := h
    obtain ⟨⟨dx, ho⟩, hw, _, _⟩ := id hf
    refine ⟨_, (pss_cons (ps_if (pt_val (pe_calm (pv 0) T.cl m_has hr (pa_cons (pv 1) pa_nil))) (pss_one (ps_ret (pv 1))) pss_nil)
      (pss_cons (ps_if (pt_cmpR op_eq (pe_fld (pv 0) rfl) pe_str (nomark _)) (pss_one (ps_ret (pe_ifExp (pt_cmpR op_lt (pv 1) pe_int (nomark _)) (pe_calm0 (pv 0) T.cl m_least hr) (pe_calm0 (pv 0) T.cl m_greatest hr)))) pss_nil)
      (pss_one (ps_ret (pe_op op_add (pe_op op_mod (pe_op op_sub (pv 1) (pe_calm0 (pv 0) T.cl m_least hr)) (pe_op op_shl pe_int (pe_fld (pv 0) rfl))) (pe_calm0 (pv 0) T.cl m_least hr)))))), ?_⟩
    refine ⟨_, rfl, p, dx, _, rfl, ho, fl_no (by decide +kernel), _, rfl, p, w, pt, m, st, .int n, _, rfl, hf, .inl ⟨n, rfl, rfl⟩, _, rfl, ?_⟩
    cases w with
    | none => exact iteT ⟨_, rfl, q⟩
    | some y =>
      obtain ⟨y0, y1⟩ := hw y rfl
      replace q : Q (.int (if inR (some y) n = true then n else if st = true then (if n < 0 then lst y else grt y) else (n - lst y) % two y + lst y)) H := q
      cases hi : inR (some y) n with
      | true =>
        rw [hi] at q
        exact iteT ⟨_, rfl, q⟩
      | false =>
        rw [hi] at q
        refine iteF ?_
        cases st with
        | true =>
          refine ⟨_, rfl, p, C, dx, _, _, rfl, ho, T.cl, T.nE, fl_e, rfl, _, rfl, ?_⟩
          rw [decide_eq_true (show V.str (endS true) = V.str "stop" from rfl)]
          refine iteT ⟨_, rfl, _, _, rfl, rfl, _, rfl, ite2 (fun c => ?_) (fun c => ?_)⟩
          · have hc : n < 0 := toB c
            refine ⟨_, rfl, p, dx, _, rfl, ho, fl_no (by decide +kernel), p, some y, pt, m, true, rfl, hf, ?_⟩
            simp only [if_pos hc, if_neg Bool.false_ne_true, if_pos] at q
            exact q
          · have hc : ¬ n < 0 := toNB c
            refine ⟨_, rfl, p, dx, _, rfl, ho, fl_no (by decide +kernel), p, some y, pt, m, true, rfl, hf, ?_⟩
            simp only [if_neg hc, if_neg Bool.false_ne_true, if_pos] at q
            exact q
        | false =>
          refine ⟨_, rfl, p, C, dx, _, _, rfl, ho, T.cl, T.nE, fl_e, rfl, _, rfl, ?_⟩
          rw [decide_eq_false (show ¬ V.str (endS false) = V.str "stop" by intro z; exact absurd (V.str.inj z) (by decide +kernel))]
          have e2 : (1 : Int) * 2 ^ y.toNat = two y := Int.one_mul _
          refine iteF ⟨_, rfl, _, rfl, p, dx, _, rfl, ho, fl_no (by decide +kernel), p, some y, pt, m, false, rfl, hf, _, _, rfl, rfl, _, rfl, p, C, dx, _, _, rfl, ho, T.cl, T.nW, fl_w, _, _, rfl, rfl, ⟨by omega, by omega, by decide⟩, _, _, rfl, rfl, ?_, _, rfl, p, dx, _, rfl, ho, fl_no (by decide +kernel), p, some y, pt, m, false, rfl, hf, _, _, rfl, rfl, ?_⟩
          · show 0 < (1 : Int) * 2 ^ y.toNat
            rw [e2]
            exact two_pos y
          · rw [e2]
            simp only [if_neg Bool.false_ne_true] at q
            exact q
end
end E1

namespace E1
open PySem PySem.Spec PyProof.Rows L2
/-! ### nets: rows, holds, forms, points -/
/-- a new object, its heap named -/
theorem upd_gen {H G : Hp} {p : Addr} {o : HO} (e : upd H p o = G) (hp : H p = none) : Same H G ∧ G p = some o := by
  subst e
  exact ⟨same_new hp, upd_same⟩
theorem Same.sqL {K : PySem.W.Frag} {H H' : Hp} {a : Addr} {xs : List V} (e : Same H H') (h : SqL K H a xs) : SqL K H' a xs := by
  rcases h with (h | ⟨o, h⟩) | h
  · exact .inl (.inl (e _ _ h))
  · exact .inl (.inr ⟨o, e _ _ h⟩)
  · exact .inr h
theorem iteC {c d : Bool} {A B : Prop} (e : c = d) (h : if d = true then A else B) : if c = true then A else B := by
  rw [e]
  exact h
theorem sl_le {n : Nat} (h : n ≤ 100000) : n ≤ sizeLine := Nat.le_trans h (by decide)
theorem sl_lt {n : Nat} (h : n ≤ 100000) : n < sizeLine := Nat.lt_of_le_of_lt h (by decide)
inductive Row where
  | inn
  | old (k : Nat)
  | times (f : Int) (m a : Nat)
  | plus (a b : Nat)
  | less (a b : Nat)
  | move (m : Int) (a : Nat)
  | keep (f a : Nat)
inductive Kd7 where
  | inn | old | times | plus | less | move | keep
def Row.kd : Row → Kd7
  | .inn => .inn
  | .old _ => .old
  | .times _ _ _ => .times
  | .plus _ _ => .plus
  | .less _ _ => .less
  | .move _ _ => .move
  | .keep _ _ => .keep
def Kd7.s : Kd7 → Str
  | .inn => "in"
  | .old => "old"
  | .times => "times"
  | .plus => "plus"
  | .less => "less"
  | .move => "move"
  | .keep => "keep"
def Kd7.n : Kd7 → Nat
  | .inn => 1
  | .old => 2
  | .times => 4
  | .plus => 3
  | .less => 3
  | .move => 3
  | .keep => 3
def Row.vs : Row → List V
  | .inn => [.str "in"]
  | .old k => [.str "old", .int k]
  | .times f m a => [.str "times", .int f, .int m, .int a]
  | .plus a b => [.str "plus", .int a, .int b]
  | .less a b => [.str "less", .int a, .int b]
  | .move m a => [.str "move", .int m, .int a]
  | .keep f a => [.str "keep", .int f, .int a]
theorem Row.vs0 (r : Row) : r.vs[0]? = some (.str r.kd.s) := by cases r <;> rfl
theorem Row.vs_len (r : Row) : r.vs.length = r.kd.n := by cases r <;> rfl
/-- tuples that lie at the things of a list -/
inductive TsAt (H : Hp) : List V → List (List V) → Prop where
  | nil : TsAt H [] []
  | cons {p : Addr} {xs : List V} {vs : List V} {xss : List (List V)} (e : H p = some (.tup xs)) (r : TsAt H vs xss) : TsAt H (.ref p :: vs) (xs :: xss)
theorem TsAt.mono {H H' : Hp} {vs : List V} {xss : List (List V)} (h : TsAt H vs xss) (k : ∀ p xs, H p = some (.tup xs) → H' p = some (.tup xs)) : TsAt H' vs xss := by
  induction h with
  | nil => exact .nil
  | cons e _ ih => exact .cons (k _ _ e) ih
theorem TsAt.same {H H' : Hp} {vs : List V} {xss : List (List V)} (h : TsAt H vs xss) (s : Same H H') : TsAt H' vs xss := h.mono fun _ _ e => s _ _ e
theorem TsAt.len {H : Hp} {vs : List V} {xss : List (List V)} (h : TsAt H vs xss) : vs.length = xss.length := by
  induction h with
  | nil => rfl
  | cons _ _ ih => rw [List.length_cons, List.length_cons, ih]
theorem TsAt.get {H : Hp} {vs : List V} {xss : List (List V)} (h : TsAt H vs xss) : ∀ {i : Nat} {v : V}, vs[i]? = some v → ∃ p xs, v = .ref p ∧ xss[i]? = some xs ∧ H p = some (.tup xs) := by
  induction h with
  | nil => intro i v z; cases z
  | cons e _ ih =>
    intro i v z
    cases i with
    | zero =>
      cases z
      exact ⟨_, _, rfl, rfl, e⟩
    | succ i => exact ih z
theorem TsAt.at {H : Hp} {vs : List V} {xss : List (List V)} (h : TsAt H vs xss) : ∀ {i : Nat} {xs : List V}, xss[i]? = some xs → ∃ p, vs[i]? = some (.ref p) ∧ H p = some (.tup xs) := by
  induction h with
  | nil => intro i v z; cases z
  | cons e _ ih =>
    intro i v z
    cases i with
    | zero =>
      cases z
      exact ⟨_, rfl, e⟩
    | succ i => exact ih z
theorem TsAt.app {H : Hp} {vs ws : List V} {xss yss : List (List V)} (h : TsAt H vs xss) (g : TsAt H ws yss) : TsAt H (vs ++ ws) (xss ++ yss) := by
  induction h with
  | nil => exact g
  | cons e _ ih => exact .cons e ih
/-- a list of tuples in the heap -/
def TL7 (H : Hp) (a : Addr) (xss : List (List V)) : Prop := ∃ vs, H a = some (.lst vs) ∧ TsAt H vs xss
theorem TL7.same {H H' : Hp} {a : Addr} {xss : List (List V)} (h : TL7 H a xss) (s : Same H H') : TL7 H' a xss := by
  obtain ⟨vs, e, t⟩ := h
  exact ⟨vs, s _ _ e, t.same s⟩
/-- but for another list -/
theorem TsAt.but {H H' : Hp} {a : Addr} {ys : List V} {vs : List V} {xss : List (List V)} (h : TsAt H vs xss) (s : SameBut a H H') (ha : H a = some (.lst ys)) : TsAt H' vs xss := h.mono fun p xs e => s p _ (ne_of e ha (fun z => nomatch z)) e
theorem TL7.but {H H' : Hp} {a b : Addr} {ys : List V} {xss : List (List V)} (h : TL7 H a xss) (s : SameBut b H H') (hb : H b = some (.lst ys)) (n : a ≠ b) : TL7 H' a xss := by
  obtain ⟨vs, e, t⟩ := h
  exact ⟨vs, s _ _ n e, t.but s hb⟩
structure FormP where
  w : Option Int
  pt : Int
  m : Mn
  st : Bool
def FormP.vs (f : FormP) : List V := [wV f.w, .int f.pt, .str f.m.str, .str (endS f.st)]
structure FormP.Ok (f : FormP) : Prop where
  wo : WOk f.w
  p0 : -64 ≤ f.pt
  p1 : f.pt ≤ 64
abbrev FAt (C : Addr) (H : Hp) (p : Addr) (f : FormP) : Prop := FormAt C H p f.w f.pt f.m f.st
/-- forms that are the things of a list -/
inductive FsAt (C : Addr) (H : Hp) : List V → List FormP → Prop where
  | nil : FsAt C H [] []
  | cons {p : Addr} {f : FormP} {vs : List V} {fs : List FormP} (e : FAt C H p f) (r : FsAt C H vs fs) : FsAt C H (.ref p :: vs) (f :: fs)
theorem FsAt.same {C : Addr} {H H' : Hp} {vs : List V} {fs : List FormP} (h : FsAt C H vs fs) (s : Same H H') : FsAt C H' vs fs := by
  induction h with
  | nil => exact .nil
  | cons e _ ih => exact .cons (FormAt.same e s) ih
theorem FsAt.len {C : Addr} {H : Hp} {vs : List V} {fs : List FormP} (h : FsAt C H vs fs) : vs.length = fs.length := by
  induction h with
  | nil => rfl
  | cons _ _ ih => rw [List.length_cons, List.length_cons, ih]
theorem FsAt.get {C : Addr} {H : Hp} {vs : List V} {fs : List FormP} (h : FsAt C H vs fs) : ∀ {i : Nat} {v : V}, vs[i]? = some v → ∃ p f, v = .ref p ∧ fs[i]? = some f ∧ FAt C H p f := by
  induction h with
  | nil => intro i v z; cases z
  | cons e _ ih =>
    intro i v z
    cases i with
    | zero =>
      cases z
      exact ⟨_, _, rfl, rfl, e⟩
    | succ i => exact ih z
theorem FsAt.at {C : Addr} {H : Hp} {vs : List V} {fs : List FormP} (h : FsAt C H vs fs) : ∀ {i : Nat} {f : FormP}, fs[i]? = some f → ∃ p, vs[i]? = some (.ref p) ∧ FAt C H p f := by
  induction h with
  | nil => intro i v z; cases z
  | cons e _ ih =>
    intro i v z
    cases i with
    | zero =>
      cases z
      exact ⟨_, rfl, e⟩
    | succ i => exact ih z
theorem FsAt.app {C : Addr} {H : Hp} {vs ws : List V} {fs gs : List FormP} (h : FsAt C H vs fs) (g : FsAt C H ws gs) : FsAt C H (vs ++ ws) (fs ++ gs) := by
  induction h with
  | nil => exact g
  | cons e _ ih => exact .cons e ih
structure Hold where
  k : Nat
  s : Int
  l : Nat
def Hold.vs (h : Hold) : List V := [.int h.k, .int h.s, .int h.l]
structure NetP where
  fs : List FormP
  en : Nat
  rows : List Row
  holds : List Hold
  out : Nat
def fpt (fs : List FormP) (k : Nat) : Int := ((fs.map (·.pt)).getD k 0)
def hpts (n : NetP) : List Int := n.holds.map fun h => fpt n.fs h.k
/-- a row's point, from the points ahead -/
def rowPt (en : Int) (hp fp pts : List Int) : Row → Int
  | .inn => en
  | .old k => hp.getD k 0
  | .times _ m a => pts.getD a 0 + m
  | .plus a b => let x := pts.getD a 0; let y := pts.getD b 0; if y > x then y else x
  | .less a b => let x := pts.getD a 0; let y := pts.getD b 0; if y > x then y else x
  | .move m a => pts.getD a 0 - m
  | .keep f _ => fp.getD f 0
def ptsOf (en : Int) (hp fp : List Int) (rows : List Row) : List Int := rows.foldl (fun pts r => pts ++ [rowPt en hp fp pts r]) []
def NetP.pts (n : NetP) : List Int := ptsOf (fpt n.fs n.en) (hpts n) (n.fs.map (·.pt)) n.rows
theorem ptsOf_snoc (en : Int) (hp fp : List Int) (rows : List Row) (r : Row) : ptsOf en hp fp (rows ++ [r]) = ptsOf en hp fp rows ++ [rowPt en hp fp (ptsOf en hp fp rows) r] := by
  unfold ptsOf
  rw [List.foldl_append]
  rfl
theorem ptsOf_len (en : Int) (hp fp : List Int) (rows : List Row) : (ptsOf en hp fp rows).length = rows.length := by
  have key : ∀ (rows : List Row) (acc : List Int), (rows.foldl (fun pts r => pts ++ [rowPt en hp fp pts r]) acc).length = acc.length + rows.length := by
    intro rows
    induction rows with
    | nil => intro acc; rfl
    | cons r rs ih =>
      intro acc
      rw [List.foldl_cons, ih]
      simp only [List.length_append, List.length_cons, List.length_nil]
      omega
  have := key rows []
  rw [List.length_nil] at this
  unfold ptsOf
  omega
theorem ptsOf_take (en : Int) (hp fp : List Int) (rows : List Row) (i : Nat) : (ptsOf en hp fp rows).take i = ptsOf en hp fp (rows.take i) := by
  have key : ∀ (rs : List Row) (acc : List Int) (i : Nat), ((rs.foldl (fun pts r => pts ++ [rowPt en hp fp pts r]) acc)).take (acc.length + i) = (rs.take i).foldl (fun pts r => pts ++ [rowPt en hp fp pts r]) acc := by
    intro rs
    induction rs with
    | nil =>
      intro acc i
      rw [List.take_nil]
      exact List.take_of_length_le (by show acc.length ≤ _; omega)
    | cons r rs ih =>
      intro acc i
      cases i with
      | zero =>
        rw [List.take_zero, Nat.add_zero]
        have h := ih (acc ++ [rowPt en hp fp acc r]) 0
        rw [Nat.add_zero, List.take_zero] at h
        rw [List.foldl_cons]
        have h2 := congrArg (List.take acc.length) h
        rw [List.take_take, List.length_append] at h2
        rw [show min acc.length (acc.length + [rowPt en hp fp acc r].length) = acc.length by omega] at h2
        rw [h2]
        show (acc ++ [rowPt en hp fp acc r]).take acc.length = acc
        rw [List.take_append_of_le_length (Nat.le_refl _), List.take_length]
      | succ i =>
        rw [List.foldl_cons, List.take_succ_cons, List.foldl_cons]
        have h := ih (acc ++ [rowPt en hp fp acc r]) i
        rw [List.length_append, List.length_singleton] at h
        rw [← h]
        congr 1
        omega
  have := key rows [] i
  rw [List.length_nil, Nat.zero_add] at this
  exact this
/-- a row that may stand at place i -/
def RowOk (hc fc i : Nat) : Row → Prop
  | .inn => True
  | .old k => k < hc
  | .times f m a => f.natAbs < 9223372036854775808 ∧ m ≤ 64 ∧ a < i
  | .plus a b => a < i ∧ b < i
  | .less a b => a < i ∧ b < i
  | .move m a => m.natAbs ≤ 64 ∧ a < i
  | .keep f a => f < fc ∧ a < i
structure NetOk (n : NetP) : Prop where
  f1 : 1 ≤ n.fs.length
  f2 : n.fs.length ≤ 12
  fo : ∀ f ∈ n.fs, f.Ok
  en : n.en < n.fs.length
  h2 : n.holds.length ≤ 6
  ho : ∀ h ∈ n.holds, h.k < n.fs.length ∧ (∀ f, n.fs[h.k]? = some f → inR f.w h.s = true) ∧ ∃ a, n.rows[h.l]? = some (.keep h.k a)
  r1 : 1 ≤ n.rows.length
  r2 : n.rows.length ≤ 60
  ro : ∀ i r, n.rows[i]? = some r → RowOk n.holds.length n.fs.length i r
  po : ∀ p ∈ n.pts, -200 ≤ p ∧ p ≤ 200
  out : n.out < n.rows.length
/-- a net in the heap -/
def nflds (fl : Addr) (en : Int) (rl hl : Addr) (out : Int) (pl : Addr) : List (Str × V) := [("form_list", .ref fl), ("enters_at", .int en), ("row_list", .ref rl), ("hold_list", .ref hl), ("out_at", .int out), ("point_list", .ref pl)]
structure NetB (C CN : Addr) (H : Hp) (p : Addr) (n : NetP) (dx fl rl hl pl : Addr) (fv rv hv : List V) : Prop where
  ob : H p = some (.ins CN dx (nflds fl n.en rl hl n.out pl))
  fa : H fl = some (.lst fv)
  fs : FsAt C H fv n.fs
  ra : H rl = some (.lst rv)
  rs : TsAt H rv (n.rows.map Row.vs)
  ha : H hl = some (.lst hv)
  hs : TsAt H hv (n.holds.map Hold.vs)
  pa : H pl = some (.lst (n.pts.map V.int))
def NetAt (C CN : Addr) (H : Hp) (p : Addr) (n : NetP) : Prop := NetOk n ∧ ∃ dx fl rl hl pl fv rv hv, NetB C CN H p n dx fl rl hl pl fv rv hv
theorem NetB.same {C CN : Addr} {H H' : Hp} {p : Addr} {n : NetP} {dx fl rl hl pl : Addr} {fv rv hv : List V} (h : NetB C CN H p n dx fl rl hl pl fv rv hv) (s : Same H H') : NetB C CN H' p n dx fl rl hl pl fv rv hv :=
  ⟨s _ _ h.ob, s _ _ h.fa, h.fs.same s, s _ _ h.ra, h.rs.same s, s _ _ h.ha, h.hs.same s, s _ _ h.pa⟩
theorem NetAt.same {C CN : Addr} {H H' : Hp} {p : Addr} {n : NetP} (h : NetAt C CN H p n) (s : Same H H') : NetAt C CN H' p n := by
  obtain ⟨o, dx, fl, rl, hl, pl, fv, rv, hv, b⟩ := h
  exact ⟨o, dx, fl, rl, hl, pl, fv, rv, hv, b.same s⟩
theorem get_map {α : Type} {l : List α} {i : Nat} {g : α → V} {x : α} (h : l[i]? = some x) : (l.map g)[i]? = some (g x) := by rw [List.getElem?_map, h]; rfl
theorem getD_of {l : List Int} {i : Nat} (h : i < l.length) : l[i]? = some (l.getD i 0) := by
  rw [List.getD_eq_getElem?_getD, List.getElem?_eq_getElem h]
  rfl
theorem ints_at {l : List Int} {i : Nat} (h : i < l.length) : atI (l.map V.int) (i : Int) = some (.int (l.getD i 0)) := atI_nat (get_map (getD_of h))
end E1

namespace E1
open PySem PySem.Spec PyProof.Rows L2

/-- how many steps of the form a number at a point is, rounded -/
def stepsAt (pt : Int) (m : Mn) (n p : Int) : Int := if p ≤ pt then n * 2 ^ (pt - p).toNat else m.f n (2 ^ (p - pt).toNat)
def spEnded (C : Addr) : Sp := fun vs H Q _ => ∃ (p : Addr) (w : Option Int) (pt : Int) (m : Mn) (st : Bool) (n : Int), vs = [.ref p, .int n] ∧ FormAt C H p w pt m st ∧ ∀ r, H r = none → Q (.ref r) (upd H r (.tup [.int (wordF w st n), .int (n - wordF w st n)]))
def spKeptAt (C : Addr) : Sp := fun vs H Q _ => ∃ (p : Addr) (w : Option Int) (pt : Int) (m : Mn) (st : Bool) (n x : Int), vs = [.ref p, .int n, .int x] ∧ FormAt C H p w pt m st ∧ -200 ≤ x ∧ x ≤ 200 ∧ n.natAbs < 2 ^ 900000 ∧
  ∀ (r : Addr) (H' : Hp), H r = none → Same H H' → H' r = some (.tup [.int (wordF w st (stepsAt pt m n x)), .int (stepsAt pt m n x - wordF w st (stepsAt pt m n x))]) → Q (.ref r) H'
theorem ibits_lt {i : Int} {n : Nat} (h : i.natAbs < 2 ^ n) : Builtin.Int.intBits i ≤ n := by
  exact PySem.intBits_le_iff.mpr h
theorem shl_ok {i : Int} {n k : Nat} (h : i.natAbs < 2 ^ n) (l : n + k ≤ 1000000) : CShl i (k : Int) := by
  refine ⟨by omega, ?_⟩
  have := ibits_lt h
  omega
theorem one_shl (k : Nat) : (1 : Int) * 2 ^ k = 2 ^ k := Int.one_mul _
theorem two_pow_lt {k n : Nat} (h : k < n) : ((2 : Int) ^ k).natAbs < 2 ^ n := by
  rw [Int.natAbs_pow]
  exact Nat.pow_lt_pow_right (by decide) h
theorem two_pow_pos (k : Nat) : (0 : Int) < 2 ^ k := Int.pow_pos (by decide)
section
variable {P : Program} {w : World} {K : PySem.W.Frag} {mg : Str → Option Value} {base : Heap}
theorem sc_Form_ended : FnScope ["self", "number", "word"] ["self", "number"] (defScope s_Form_ended) := ⟨rfl, rfl, rfl, by decide +kernel, rfl, by decide +kernel, by decide +kernel⟩
theorem ok_Form_ended {f : Addr} {fd : FuncData} {C : Addr} (T : FTxt K mg C) (F : Fun K "ended" "Form.ended" s_Form_ended f fd) (m_word_for : CalM P w K mg base 3 C "word_for" ["self", "number"] (spWord C)) : FnOk P w K mg base CX0 4 f fd ["self", "number"] (spEnded C) := by
  refine F.ok sc_Form_ended (fun vs H Q E h => ?_) (fun cdv A outer s H vs Q E hr h => ?_)
  · obtain ⟨p, w, pt, m, st, n, rfl, _⟩ := h
    rfl
  · obtain ⟨p, w, pt, m, st, n, rfl, hf, q⟩ := h
    obtain ⟨⟨dx, ho⟩, hw, h0, h1⟩ := id hf
    refine ⟨_, (pss_cons (ps_set (i := 2) sc_Form_ended.nd rfl (.inl rfl) (pe_calm (pv 0) T.cl m_word_for hr (pa_cons (pv 1) pa_nil)))
      (pss_one (ps_ret (pe_tup (pa_cons (pv 2) (pa_cons (pe_op op_sub (pv 1) (pv 2)) pa_nil)))))), ?_⟩
    refine ⟨_, rfl, p, dx, _, rfl, ho, fl_no (by decide +kernel), _, rfl, p, w, pt, m, st, n, rfl, hf, ?_⟩
    exact ⟨_, rfl, _, rfl, _, rfl, _, _, rfl, rfl, (by show 2 ≤ sizeLine; decide), fun r hr => q r hr⟩
theorem sc_Form_kept_at : FnScope ["self", "number", "point"] ["self", "number", "point"] (defScope s_Form_kept_at) := ⟨rfl, rfl, rfl, by decide +kernel, rfl, by decide +kernel, by decide +kernel⟩
theorem ok_Form_kept_at {f : Addr} {fd : FuncData} {C : Addr} (T : FTxt K mg C) (F : Fun K "kept_at" "Form.kept_at" s_Form_kept_at f fd) (c_rounded : Cal P w K mg base 3 "rounded" ["value", "manner"] (spRounded K)) (m_ended : CalM P w K mg base 4 C "ended" ["self", "number"] (spEnded C)) : FnOk P w K mg base CX0 5 f fd ["self", "number", "point"] (spKeptAt C) := by
  refine F.ok sc_Form_kept_at (fun vs H Q E h => ?_) (fun cdv A outer s H vs Q E hr h => ?_)
  · obtain ⟨p, w, pt, m, st, n, x, rfl, _⟩ := h
    rfl
  · obtain ⟨p, w, pt, m, st, n, x, rfl, hf, x0, x1, hn, q⟩ := h
    obtain ⟨⟨dx, ho⟩, hw, h0, h1⟩ := id hf
    refine ⟨_, (pss_cons (ps_if (pt_cmpR op_le (pv 2) (pe_fld (pv 0) rfl) (nomark _)) (pss_one (ps_ret (pe_calm (pv 0) T.cl m_ended hr (pa_cons (pe_op op_shlW (pv 1) (pe_op op_sub (pe_fld (pv 0) rfl) (pv 2))) pa_nil)))) pss_nil)
      (pss_one (ps_ret (pe_calm (pv 0) T.cl m_ended hr (pa_cons (pe_cal c_rounded hr (pa_cons (pe_tup (pa_cons (pv 1) (pa_cons (pe_op op_shlW pe_int (pe_op op_sub (pv 2) (pe_fld (pv 0) rfl))) pa_nil))) (pa_cons (pe_fld (pv 0) rfl) pa_nil))) pa_nil))))), ?_⟩
    refine ⟨_, rfl, _, rfl, p, C, dx, _, _, rfl, ho, T.cl, T.nP, fl_p, _, _, rfl, rfl, _, rfl, ite2 (fun c => ?_) (fun c => ?_)⟩
    · have hc : x ≤ pt := toB c
      have e : pt - x = (((pt - x).toNat : Nat) : Int) := by omega
      refine ⟨_, rfl, p, dx, _, rfl, ho, fl_no (by decide +kernel), _, rfl, _, rfl, p, C, dx, _, _, rfl, ho, T.cl, T.nP, fl_p, _, rfl, _, _, rfl, rfl, _, _, rfl, rfl, ?_, p, w, pt, m, st, _, rfl, hf, fun r hr => ?_⟩
      · rw [e]
        exact shl_ok hn (by omega)
      · have es : stepsAt pt m n x = n * 2 ^ (pt - x).toNat := if_pos hc
        have := q r _ hr (same_new (o := .tup [.int (wordF w st (n * 2 ^ (pt - x).toNat)), .int (n * 2 ^ (pt - x).toNat - wordF w st (n * 2 ^ (pt - x).toNat))]) hr)
        rw [es] at this
        exact this upd_same
    · have hc : ¬ x ≤ pt := toNB c
      have e : x - pt = (((x - pt).toNat : Nat) : Int) := by omega
      refine ⟨_, rfl, p, dx, _, rfl, ho, fl_no (by decide +kernel), _, rfl, _, rfl, _, rfl, p, C, dx, _, _, rfl, ho, T.cl, T.nP, fl_p, _, _, rfl, rfl, _, _, rfl, rfl, ?_, (by show 2 ≤ sizeLine; decide), fun t ht => ?_⟩
      · rw [e]
        exact shl_ok (n := 1) (by decide) (by omega)
      generalize hG : upd _ t _ = G
      obtain ⟨s, h_t⟩ := upd_gen hG ht
      have ho2 := s _ _ ho
      refine ⟨_, rfl, p, C, dx, _, _, rfl, ho2, T.cl, T.nM, fl_m, t, m, n, _, rfl, SqT.of h_t, ?_, up hn (by omega), ?_, p, w, pt, m, st, _, rfl, hf.same s, fun r hr => ?_⟩
      · rw [Int.one_mul]
        exact two_pow_pos _
      · rw [Int.one_mul]
        exact up (two_pow_lt (n := 300) (by omega)) (by decide)
      · have es : stepsAt pt m n x = m.f n (2 ^ (x - pt).toNat) := if_neg hc
        rw [Int.one_mul]
        have := q r _ (s.free hr) (s.trans (same_new (o := .tup [.int (wordF w st (m.f n (2 ^ (x - pt).toNat))), .int (m.f n (2 ^ (x - pt).toNat) - wordF w st (m.f n (2 ^ (x - pt).toNat)))]) hr))
        rw [es] at this
        exact this upd_same
end
end E1

namespace E1
open PySem PySem.Spec PyProof.Rows L2

def GivenAt (H : Hp) (gv : Addr) (en : Int) (hp fp : List Int) : Prop := ∃ ha fa, H gv = some (.tup [.int en, .ref ha, .ref fa]) ∧ H ha = some (.lst (hp.map V.int)) ∧ H fa = some (.lst (fp.map V.int))
def spPlace : Sp := fun vs H Q _ => ∃ k n : Int, vs = [.int k, .int n] ∧ 0 ≤ k ∧ k < n ∧ Q (.bl true) H
def spFactor : Sp := fun vs H Q _ => ∃ f : Int, vs = [.int f] ∧ f.natAbs < 9223372036854775808 ∧ Q (.bl true) H
def spRule (kd : Kd7) : Sp := fun vs H Q _ => ∃ (ra pa gv : Addr) (r : Row) (en : Int) (hp fp pts : List Int), vs = [.ref ra, .ref pa, .ref gv] ∧ H ra = some (.tup r.vs) ∧ r.kd = kd ∧ H pa = some (.lst (pts.map V.int)) ∧ GivenAt H gv en hp fp ∧ RowOk hp.length fp.length pts.length r ∧ Q (.int (rowPt en hp fp pts r)) H
def spRowPt : Sp := fun vs H Q _ => ∃ (ra pa gv : Addr) (r : Row) (en : Int) (hp fp pts : List Int), vs = [.ref ra, .ref pa, .ref gv] ∧ H ra = some (.tup r.vs) ∧ H pa = some (.lst (pts.map V.int)) ∧ GivenAt H gv en hp fp ∧ RowOk hp.length fp.length pts.length r ∧ -200 ≤ rowPt en hp fp pts r ∧ rowPt en hp fp pts r ≤ 200 ∧ Q (.int (rowPt en hp fp pts r)) H
def spWritten : Sp := fun vs H Q _ => ∃ (ra : Addr) (r : Row), vs = [.ref ra] ∧ H ra = some (.tup r.vs) ∧ Q (.bl true) H
structure Lens (w : World) (K : PySem.W.Frag) (mg : Str → Option Value) (dL : Addr) (es : Array DictEntry) (n : Nat) : Prop where
  gm : mg "ROW_LENGTHS" = some (.ref dL)
  D : KDict K w dL es n
  at_ : ∀ k : Kd7, ∃ t, PySem.W.nsIn K dL k.s = some (some (.int (k.n : Int) t))
structure Ruls (P : Program) (w : World) (K : PySem.W.Frag) (mg : Str → Option Value) (base : Heap) (dP : Addr) (es : Array DictEntry) (n : Nat) : Prop where
  gm : mg "POINT_RULES" = some (.ref dP)
  D : KDict K w dP es n
  at_ : ∀ k : Kd7, ∃ (f : Addr) (fd : FuncData), PySem.W.nsIn K dP k.s = some (some (.ref f)) ∧ PySem.W.keepIn K (.ref f) = true ∧ Binds K fd ["row", "points", "given"] [] ∧ FnOk P w K mg base CX0 3 f fd ["row", "points", "given"] (spRule k)
structure NCst (mg : Str → Option Value) : Prop where
  fe : ∃ t, mg "FACTOR_END" = some (.int 9223372036854775808 t)
  gs : ∃ t, mg "GREATEST_SHIFT" = some (.int 64 t)
  gr : ∃ t, mg "GREATEST_ROW_POINT" = some (.int 200 t)
  mf : ∃ t, mg "MOST_FORMS" = some (.int 12 t)
  mr : ∃ t, mg "MOST_ROWS" = some (.int 60 t)
  mh : ∃ t, mg "MOST_HOLDS" = some (.int 6 t)
theorem qt {p : Prop} [Decidable p] {Q : VK} {H : Hp} (h : p) (q : Q (.bl true) H) : Q (.bl (decide p)) H := (congrArg (fun c => Q (.bl c) H) (decide_eq_true h)).mpr q
theorem lenI {l : List Int} : ((l.map V.int).length : Int) = (l.length : Int) := by rw [List.length_map]
section
variable {P : Program} {w : World} {K : PySem.W.Frag} {mg : Str → Option Value} {base : Heap}
theorem sc_is_place : FnScope ["thing", "many"] ["thing", "many"] (defScope s_is_place) := ⟨rfl, rfl, rfl, by decide +kernel, rfl, by decide +kernel, by decide +kernel⟩
theorem ok_is_place {f : Addr} {fd : FuncData} (F : Fun K "is_place" "is_place" s_is_place f fd) (c_is_whole : Cal P w K mg base 1 "is_whole" ["thing"] (spWhole K)) : FnOk P w K mg base CX0 2 f fd ["thing", "many"] spPlace := by
  refine F.ok sc_is_place (fun vs H Q E h => ?_) (fun cdv A outer s H vs Q E hr h => ?_)
  · obtain ⟨k, n, rfl, _⟩ := h
    rfl
  · obtain ⟨k, n, rfl, h0, h1, q⟩ := h
    refine ⟨_, (pss_one (ps_ret (pe_and (pe_cal c_is_whole hr (pa_cons (pv 0) pa_nil)) (pe_one (pe_chain op_le op_lt pe_int (pv 0) (pv 1)))))), ?_⟩
    refine ⟨_, rfl, _, true, rfl, .inl ⟨k, rfl, rfl⟩, _, rfl, iteT ⟨_, rfl, _, _, rfl, rfl, _, rfl, ?_⟩⟩
    rw [decide_eq_true (show (0 : Int) ≤ k from h0)]
    exact iteT ⟨_, rfl, _, _, rfl, rfl, qt h1 q⟩
theorem sc_is_factor : FnScope ["thing"] ["thing"] (defScope s_is_factor) := ⟨rfl, rfl, rfl, by decide +kernel, rfl, by decide +kernel, by decide +kernel⟩
theorem ok_is_factor {f : Addr} {fd : FuncData} (NC : NCst mg) (F : Fun K "is_factor" "is_factor" s_is_factor f fd) (z : Zs mg) (c_is_whole : Cal P w K mg base 1 "is_whole" ["thing"] (spWhole K)) : FnOk P w K mg base CX0 2 f fd ["thing"] spFactor := by
  refine F.ok sc_is_factor (fun vs H Q E h => ?_) (fun cdv A outer s H vs Q E hr h => ?_)
  · obtain ⟨k, rfl, _⟩ := h
    rfl
  · obtain ⟨k, rfl, h1, q⟩ := h
    refine ⟨_, (pss_one (ps_ret (pe_and (pe_cal c_is_whole hr (pa_cons (pv 0) pa_nil)) (pe_one (pe_cmpR op_lt (pe_callB call_abs (by rfl) z.abs (by decide +kernel) (pa_cons (pv 0) pa_nil)) (pe_glob (v := .int 9223372036854775808) (by rfl) NC.fe.choose_spec ⟨_, rfl⟩) (nomark _)))))), ?_⟩
    refine ⟨_, rfl, _, true, rfl, .inl ⟨k, rfl, rfl⟩, _, rfl, iteT ⟨_, rfl, _, rfl, _, _, rfl, rfl, qt (show (if k < 0 then -k else k) < 9223372036854775808 by split <;> omega) q⟩⟩
theorem sc_in_point : FnScope ["row", "points", "given"] ["row", "points", "given"] (defScope s_in_point) := ⟨rfl, rfl, rfl, by decide +kernel, rfl, by decide +kernel, by decide +kernel⟩
theorem ok_in_point {f : Addr} {fd : FuncData} (F : Fun K "in_point" "in_point" s_in_point f fd) : FnOk P w K mg base CX0 3 f fd ["row", "points", "given"] (spRule .inn) := by
  refine F.ok sc_in_point (fun vs H Q E h => ?_) (fun cdv A outer s H vs Q E hr h => ?_)
  · obtain ⟨ra, pa, gv, r, en, hp, fp, pts, rfl, _⟩ := h
    rfl
  · obtain ⟨ra, pa, gv, r, en, hp, fp, pts, rfl, hra, hk, hpa, ⟨ha, fa, hgv, hha, hfa⟩, hok, q⟩ := h
    refine ⟨_, (pss_one (ps_ret (pe_ix ix_tup (pv 2) pe_int (fun _ _ => rfl)))), ?_⟩
    match r, hk, hok, hra, q with
    | .inn, _, _, hra, q => exact ⟨_, rfl, gv, _, 0, .int en, rfl, rfl, SqT.of hgv, a0, q⟩
theorem sc_old_point : FnScope ["row", "points", "given", "hold_points"] ["row", "points", "given"] (defScope s_old_point) := ⟨rfl, rfl, rfl, by decide +kernel, rfl, by decide +kernel, by decide +kernel⟩
theorem ok_old_point {f : Addr} {fd : FuncData} (z : Zs mg) (c_is_place : Cal P w K mg base 2 "is_place" ["thing", "many"] spPlace) (F : Fun K "old_point" "old_point" s_old_point f fd) : FnOk P w K mg base CX0 3 f fd ["row", "points", "given"] (spRule .old) := by
  refine F.ok sc_old_point (fun vs H Q E h => ?_) (fun cdv A outer s H vs Q E hr h => ?_)
  · obtain ⟨ra, pa, gv, r, en, hp, fp, pts, rfl, _⟩ := h
    rfl
  · obtain ⟨ra, pa, gv, r, en, hp, fp, pts, rfl, hra, hk, hpa, ⟨ha, fa, hgv, hha, hfa⟩, hok, q⟩ := h
    refine ⟨_, (pss_cons (ps_set (i := 3) sc_old_point.nd rfl (.inl rfl) (pe_ix ix_tup (pv 2) pe_int (fun _ _ => rfl)))
      (pss_one (ps_ret (pe_ifExp (pt_val (pe_cal c_is_place hr (pa_cons (pe_ix ix_tup (pv 0) pe_int (fun _ _ => rfl)) (pa_cons (pe_callB call_len_seq (by rfl) z.len PySem.boot_len (pa_cons (pv 3) pa_nil)) pa_nil)))) (pe_ix ix_list (pv 3) (pe_ix ix_tup (pv 0) pe_int (fun _ _ => rfl)) (fun _ _ => rfl)) pe_non)))), ?_⟩
    match r, hk, hok, hra, q with
    | .old k, _, hok, hra, q =>
      have hk : k < hp.length := hok
      refine ⟨_, rfl, gv, _, 1, .ref ha, rfl, rfl, SqT.of hgv, a1, _, rfl, ra, _, 1, .int k, rfl, rfl, SqT.of hra, a1, _, rfl, ha, _, rfl, .inl (SqL.of hha), _, _, rfl, by omega, by rw [lenI]; omega, _, rfl, iteT ?_⟩
      exact ⟨_, rfl, _, rfl, ra, _, 1, .int k, rfl, rfl, SqT.of hra, a1, ha, _, _, _, rfl, rfl, SqL.of hha, ints_at hk, q⟩
theorem sc_times_point : FnScope ["row", "points", "given", "word", "factor", "more", "at"] ["row", "points", "given"] (defScope s_times_point) := ⟨rfl, rfl, rfl, by decide +kernel, rfl, by decide +kernel, by decide +kernel⟩
theorem ok_times_point {f : Addr} {fd : FuncData} (NC : NCst mg) (z : Zs mg) (c_is_factor : Cal P w K mg base 2 "is_factor" ["thing"] spFactor) (c_is_place : Cal P w K mg base 2 "is_place" ["thing", "many"] spPlace) (F : Fun K "times_point" "times_point" s_times_point f fd) : FnOk P w K mg base CX0 3 f fd ["row", "points", "given"] (spRule .times) := by
  refine F.ok sc_times_point (fun vs H Q E h => ?_) (fun cdv A outer s H vs Q E hr h => ?_)
  · obtain ⟨ra, pa, gv, r, en, hp, fp, pts, rfl, _⟩ := h
    rfl
  · obtain ⟨ra, pa, gv, r, en, hp, fp, pts, rfl, hra, hk, hpa, ⟨ha, fa, hgv, hha, hfa⟩, hok, q⟩ := h
    refine ⟨_, (pss_cons (ps_asg (pv 0) (pg_tup (by rfl) (pgs_cons (pg_name (i := 3) sc_times_point.nd rfl (.inl rfl)) (pgs_cons (pg_name (i := 4) sc_times_point.nd rfl (.inl rfl)) (pgs_cons (pg_name (i := 5) sc_times_point.nd rfl (.inl rfl)) (pgs_cons (pg_name (i := 6) sc_times_point.nd rfl (.inl rfl)) pgs_nil))))))
      (pss_cons (ps_if (PW.pt (pw_or (pt_not (pt_val (pe_cal c_is_factor hr (pa_cons (pv 4) pa_nil)))) (pw_or (pt_not (pt_val (pe_cal c_is_place hr (pa_cons (pv 5) (pa_cons (pe_op op_add (pe_glob (v := .int 64) (by rfl) NC.gs.choose_spec ⟨_, rfl⟩) pe_int) pa_nil))))) (pw_or1 (pt_not (pt_val (pe_cal c_is_place hr (pa_cons (pv 6) (pa_cons (pe_callB call_len_seq (by rfl) z.len PySem.boot_len (pa_cons (pv 1) pa_nil)) pa_nil))))))))) (pss_one (ps_ret pe_non)) pss_nil)
      (pss_one (ps_ret (pe_op op_add (pe_ix ix_list (pv 1) (pv 6) (fun _ _ => rfl)) (pv 5)))))), ?_⟩
    match r, hk, hok, hra, q with
    | .times f m a, _, hok, hra, q =>
      obtain ⟨h1, h2, h3⟩ := hok
      refine ⟨_, rfl, ra, _, rfl, SqT.of hra, rfl, _, _, rfl, _, _, rfl, _, _, rfl, _, _, rfl, rfl, _, rfl, f, rfl, h1, _, rfl, iteF ⟨_, rfl, _, _, rfl, rfl, _, _, rfl, by omega, by omega, _, rfl, iteF ⟨_, rfl, _, rfl, pa, _, rfl, .inl (SqL.of hpa), _, _, rfl, by omega, by rw [lenI]; omega, _, rfl, iteF ?_⟩⟩⟩
      exact ⟨_, rfl, _, rfl, pa, _, _, _, rfl, rfl, SqL.of hpa, ints_at h3, _, rfl, _, _, rfl, rfl, q⟩
theorem sc_sum_point : FnScope ["row", "points", "given", "word", "one", "other"] ["row", "points", "given"] (defScope s_sum_point) := ⟨rfl, rfl, rfl, by decide +kernel, rfl, by decide +kernel, by decide +kernel⟩
theorem ok_sum_point_plus {f : Addr} {fd : FuncData} (z : Zs mg) (c_is_place : Cal P w K mg base 2 "is_place" ["thing", "many"] spPlace) (F : Fun K "sum_point" "sum_point" s_sum_point f fd) : FnOk P w K mg base CX0 3 f fd ["row", "points", "given"] (spRule .plus) := by
  refine F.ok sc_sum_point (fun vs H Q E h => ?_) (fun cdv A outer s H vs Q E hr h => ?_)
  · obtain ⟨ra, pa, gv, r, en, hp, fp, pts, rfl, _⟩ := h
    rfl
  · obtain ⟨ra, pa, gv, r, en, hp, fp, pts, rfl, hra, hk, hpa, ⟨ha, fa, hgv, hha, hfa⟩, hok, q⟩ := h
    refine ⟨_, (pss_cons (ps_asg (pv 0) (pg_tup (by rfl) (pgs_cons (pg_name (i := 3) sc_sum_point.nd rfl (.inl rfl)) (pgs_cons (pg_name (i := 4) sc_sum_point.nd rfl (.inl rfl)) (pgs_cons (pg_name (i := 5) sc_sum_point.nd rfl (.inl rfl)) pgs_nil)))))
      (pss_cons (ps_if (PW.pt (pw_or (pt_not (pt_val (pe_cal c_is_place hr (pa_cons (pv 4) (pa_cons (pe_callB call_len_seq (by rfl) z.len PySem.boot_len (pa_cons (pv 1) pa_nil)) pa_nil))))) (pw_or1 (pt_not (pt_val (pe_cal c_is_place hr (pa_cons (pv 5) (pa_cons (pe_callB call_len_seq (by rfl) z.len PySem.boot_len (pa_cons (pv 1) pa_nil)) pa_nil)))))))) (pss_one (ps_ret pe_non)) pss_nil)
      (pss_one (ps_ret (pe_callB (call_max2 rfl) (by rfl) z.max (by decide +kernel) (pa_cons (pe_ix ix_list (pv 1) (pv 4) (fun _ _ => rfl)) (pa_cons (pe_ix ix_list (pv 1) (pv 5) (fun _ _ => rfl)) pa_nil))))))), ?_⟩
    match r, hk, hok, hra, q with
    | .plus a b, _, hok, hra, q =>
      obtain ⟨h1, h2⟩ := hok
      refine ⟨_, rfl, ra, _, rfl, SqT.of hra, rfl, _, _, rfl, _, _, rfl, _, _, rfl, rfl, _, rfl, _, rfl, pa, _, rfl, .inl (SqL.of hpa), _, _, rfl, by omega, by rw [lenI]; omega, _, rfl, iteF ⟨_, rfl, _, rfl, pa, _, rfl, .inl (SqL.of hpa), _, _, rfl, by omega, by rw [lenI]; omega, _, rfl, iteF ?_⟩⟩
      exact ⟨_, rfl, _, rfl, pa, _, _, _, rfl, rfl, SqL.of hpa, ints_at h1, _, rfl, _, rfl, pa, _, _, _, rfl, rfl, SqL.of hpa, ints_at h2, _, _, rfl, q⟩
theorem ok_sum_point_less {f : Addr} {fd : FuncData} (z : Zs mg) (c_is_place : Cal P w K mg base 2 "is_place" ["thing", "many"] spPlace) (F : Fun K "sum_point" "sum_point" s_sum_point f fd) : FnOk P w K mg base CX0 3 f fd ["row", "points", "given"] (spRule .less) := by
  refine F.ok sc_sum_point (fun vs H Q E h => ?_) (fun cdv A outer s H vs Q E hr h => ?_)
  · obtain ⟨ra, pa, gv, r, en, hp, fp, pts, rfl, _⟩ := h
    rfl
  · obtain ⟨ra, pa, gv, r, en, hp, fp, pts, rfl, hra, hk, hpa, ⟨ha, fa, hgv, hha, hfa⟩, hok, q⟩ := h
    refine ⟨_, (pss_cons (ps_asg (pv 0) (pg_tup (by rfl) (pgs_cons (pg_name (i := 3) sc_sum_point.nd rfl (.inl rfl)) (pgs_cons (pg_name (i := 4) sc_sum_point.nd rfl (.inl rfl)) (pgs_cons (pg_name (i := 5) sc_sum_point.nd rfl (.inl rfl)) pgs_nil)))))
      (pss_cons (ps_if (PW.pt (pw_or (pt_not (pt_val (pe_cal c_is_place hr (pa_cons (pv 4) (pa_cons (pe_callB call_len_seq (by rfl) z.len PySem.boot_len (pa_cons (pv 1) pa_nil)) pa_nil))))) (pw_or1 (pt_not (pt_val (pe_cal c_is_place hr (pa_cons (pv 5) (pa_cons (pe_callB call_len_seq (by rfl) z.len PySem.boot_len (pa_cons (pv 1) pa_nil)) pa_nil)))))))) (pss_one (ps_ret pe_non)) pss_nil)
      (pss_one (ps_ret (pe_callB (call_max2 rfl) (by rfl) z.max (by decide +kernel) (pa_cons (pe_ix ix_list (pv 1) (pv 4) (fun _ _ => rfl)) (pa_cons (pe_ix ix_list (pv 1) (pv 5) (fun _ _ => rfl)) pa_nil))))))), ?_⟩
    match r, hk, hok, hra, q with
    | .less a b, _, hok, hra, q =>
      obtain ⟨h1, h2⟩ := hok
      refine ⟨_, rfl, ra, _, rfl, SqT.of hra, rfl, _, _, rfl, _, _, rfl, _, _, rfl, rfl, _, rfl, _, rfl, pa, _, rfl, .inl (SqL.of hpa), _, _, rfl, by omega, by rw [lenI]; omega, _, rfl, iteF ⟨_, rfl, _, rfl, pa, _, rfl, .inl (SqL.of hpa), _, _, rfl, by omega, by rw [lenI]; omega, _, rfl, iteF ?_⟩⟩
      exact ⟨_, rfl, _, rfl, pa, _, _, _, rfl, rfl, SqL.of hpa, ints_at h1, _, rfl, _, rfl, pa, _, _, _, rfl, rfl, SqL.of hpa, ints_at h2, _, _, rfl, q⟩
theorem sc_move_point : FnScope ["row", "points", "given", "word", "many", "at"] ["row", "points", "given"] (defScope s_move_point) := ⟨rfl, rfl, rfl, by decide +kernel, rfl, by decide +kernel, by decide +kernel⟩
theorem ok_move_point {f : Addr} {fd : FuncData} (NC : NCst mg) (z : Zs mg) (c_is_whole : Cal P w K mg base 1 "is_whole" ["thing"] (spWhole K)) (c_is_place : Cal P w K mg base 2 "is_place" ["thing", "many"] spPlace) (F : Fun K "move_point" "move_point" s_move_point f fd) : FnOk P w K mg base CX0 3 f fd ["row", "points", "given"] (spRule .move) := by
  refine F.ok sc_move_point (fun vs H Q E h => ?_) (fun cdv A outer s H vs Q E hr h => ?_)
  · obtain ⟨ra, pa, gv, r, en, hp, fp, pts, rfl, _⟩ := h
    rfl
  · obtain ⟨ra, pa, gv, r, en, hp, fp, pts, rfl, hra, hk, hpa, ⟨ha, fa, hgv, hha, hfa⟩, hok, q⟩ := h
    refine ⟨_, (pss_cons (ps_asg (pv 0) (pg_tup (by rfl) (pgs_cons (pg_name (i := 3) sc_move_point.nd rfl (.inl rfl)) (pgs_cons (pg_name (i := 4) sc_move_point.nd rfl (.inl rfl)) (pgs_cons (pg_name (i := 5) sc_move_point.nd rfl (.inl rfl)) pgs_nil)))))
      (pss_cons (ps_if (PW.pt (pw_or (pt_not (pt_val (pe_cal c_is_whole hr (pa_cons (pv 4) pa_nil)))) (pw_or (pt_cmpR op_gt (pe_callB call_abs (by rfl) z.abs (by decide +kernel) (pa_cons (pv 4) pa_nil)) (pe_glob (v := .int 64) (by rfl) NC.gs.choose_spec ⟨_, rfl⟩) (nomark _)) (pw_or1 (pt_not (pt_val (pe_cal c_is_place hr (pa_cons (pv 5) (pa_cons (pe_callB call_len_seq (by rfl) z.len PySem.boot_len (pa_cons (pv 1) pa_nil)) pa_nil))))))))) (pss_one (ps_ret pe_non)) pss_nil)
      (pss_one (ps_ret (pe_op op_sub (pe_ix ix_list (pv 1) (pv 5) (fun _ _ => rfl)) (pv 4)))))), ?_⟩
    match r, hk, hok, hra, q with
    | .move m a, _, hok, hra, q =>
      obtain ⟨h1, h2⟩ := hok
      refine ⟨_, rfl, ra, _, rfl, SqT.of hra, rfl, _, _, rfl, _, _, rfl, _, _, rfl, rfl, _, rfl, _, true, rfl, .inl ⟨m, rfl, rfl⟩, _, rfl, iteF ⟨_, rfl, _, rfl, _, _, rfl, rfl, _, rfl, iteC (d := false) (decide_eq_false (by split <;> omega)) (iteF ⟨_, rfl, _, rfl, pa, _, rfl, .inl (SqL.of hpa), _, _, rfl, by omega, by rw [lenI]; omega, _, rfl, iteF ?_⟩)⟩⟩
      exact ⟨_, rfl, _, rfl, pa, _, _, _, rfl, rfl, SqL.of hpa, ints_at h2, _, rfl, _, _, rfl, rfl, q⟩
theorem sc_keep_point : FnScope ["row", "points", "given", "word", "form", "at", "form_points"] ["row", "points", "given"] (defScope s_keep_point) := ⟨rfl, rfl, rfl, by decide +kernel, rfl, by decide +kernel, by decide +kernel⟩
theorem ok_keep_point {f : Addr} {fd : FuncData} (z : Zs mg) (c_is_place : Cal P w K mg base 2 "is_place" ["thing", "many"] spPlace) (F : Fun K "keep_point" "keep_point" s_keep_point f fd) : FnOk P w K mg base CX0 3 f fd ["row", "points", "given"] (spRule .keep) := by
  refine F.ok sc_keep_point (fun vs H Q E h => ?_) (fun cdv A outer s H vs Q E hr h => ?_)
  · obtain ⟨ra, pa, gv, r, en, hp, fp, pts, rfl, _⟩ := h
    rfl
  · obtain ⟨ra, pa, gv, r, en, hp, fp, pts, rfl, hra, hk, hpa, ⟨ha, fa, hgv, hha, hfa⟩, hok, q⟩ := h
    refine ⟨_, (pss_cons (ps_asg (pv 0) (pg_tup (by rfl) (pgs_cons (pg_name (i := 3) sc_keep_point.nd rfl (.inl rfl)) (pgs_cons (pg_name (i := 4) sc_keep_point.nd rfl (.inl rfl)) (pgs_cons (pg_name (i := 5) sc_keep_point.nd rfl (.inl rfl)) pgs_nil)))))
      (pss_cons (ps_set (i := 6) sc_keep_point.nd rfl (.inl rfl) (pe_ix ix_tup (pv 2) pe_int (fun _ _ => rfl)))
      (pss_cons (ps_if (PW.pt (pw_or (pt_not (pt_val (pe_cal c_is_place hr (pa_cons (pv 4) (pa_cons (pe_callB call_len_seq (by rfl) z.len PySem.boot_len (pa_cons (pv 6) pa_nil)) pa_nil))))) (pw_or1 (pt_not (pt_val (pe_cal c_is_place hr (pa_cons (pv 5) (pa_cons (pe_callB call_len_seq (by rfl) z.len PySem.boot_len (pa_cons (pv 1) pa_nil)) pa_nil)))))))) (pss_one (ps_ret pe_non)) pss_nil)
      (pss_one (ps_ret (pe_ix ix_list (pv 6) (pv 4) (fun _ _ => rfl))))))), ?_⟩
    match r, hk, hok, hra, q with
    | .keep f a, _, hok, hra, q =>
      obtain ⟨h1, h2⟩ := hok
      refine ⟨_, rfl, ra, _, rfl, SqT.of hra, rfl, _, _, rfl, _, _, rfl, _, _, rfl, rfl, _, rfl, gv, _, 2, .ref fa, rfl, rfl, SqT.of hgv, a2, _, rfl, _, rfl, fa, _, rfl, .inl (SqL.of hfa), _, _, rfl, by omega, by rw [lenI]; omega, _, rfl, iteF ⟨_, rfl, _, rfl, pa, _, rfl, .inl (SqL.of hpa), _, _, rfl, by omega, by rw [lenI]; omega, _, rfl, iteF ?_⟩⟩
      exact ⟨_, rfl, _, rfl, fa, _, _, _, rfl, rfl, SqL.of hfa, ints_at h1, q⟩
theorem sc_is_written_as_row : FnScope ["thing"] ["thing"] (defScope s_is_written_as_row) := ⟨rfl, rfl, rfl, by decide +kernel, rfl, by decide +kernel, by decide +kernel⟩
theorem ok_is_written_as_row {f : Addr} {fd : FuncData} {k : Nat} {dL : Addr} {eL : Array DictEntry} {nL : Nat} (LE : Lens w K mg dL eL nL) (F : Fun K "is_written_as_row" "is_written_as_row" s_is_written_as_row f fd) (z : Zs mg) : FnOk P w K mg base CX0 (k + 1) f fd ["thing"] spWritten := by
  refine F.ok sc_is_written_as_row (fun vs H Q E h => ?_) (fun cdv A outer s H vs Q E hr h => ?_)
  · obtain ⟨ra, r, rfl, _⟩ := h
    rfl
  · obtain ⟨ra, r, rfl, hra, q⟩ := h
    refine ⟨_, (pss_cons (ps_if (PW.pt (pw_or (pt_not (pt_val (pe_callB call_isi (by rfl) z.isinstance (by decide +kernel) (pa_cons (pv 0) (pa_cons (pe_bltn (v := .ty "tuple") (by rfl) z.tuple (by decide +kernel) rfl) pa_nil))))) (pw_or (pt_not (pt_truth (pv 0) (by intro _; rfl))) (pw_or1 (pt_not (pt_val (pe_callB call_isi (by rfl) z.isinstance (by decide +kernel) (pa_cons (pe_ix ix_tup (pv 0) pe_int (fun _ _ => rfl)) (pa_cons (pe_bltn (v := .ty "str") (by rfl) z.str (by decide +kernel) rfl) pa_nil))))))))) (pss_one (ps_ret pe_bl)) pss_nil)
      (pss_one (ps_ret (pe_and (pe_cmpR (op_in_kd LE.D) (pe_ix ix_tup (pv 0) pe_int (fun _ _ => rfl)) (pe_glob (v := .ref dL) (by rfl) LE.gm rfl) (by rfl)) (pe_one (pe_cmpR op_eq (pe_callB call_len_seq (by rfl) z.len PySem.boot_len (pa_cons (pv 0) pa_nil)) (pe_ix ix_kdict (pe_glob (v := .ref dL) (by rfl) LE.gm rfl) (pe_ix ix_tup (pv 0) pe_int (fun _ _ => rfl)) (fun _ _ => rfl)) (nomark _))))))), ?_⟩
    obtain ⟨t, hL⟩ := LE.at_ r.kd
    have l0 : (!r.vs.isEmpty) = true := by cases r <;> rfl
    refine ⟨_, rfl, _, .ty "tuple", _, _, true, rfl, .ty _, .base (.tup hra), kit_ty (by decide +kernel), _, rfl, iteF ⟨_, rfl, true, .inr (.inl ⟨_, SqT.of hra, l0.symm⟩), iteF ⟨_, rfl, ra, _, 0, .str r.kd.s, rfl, rfl, SqT.of hra, atI_nat (j := 0) r.vs0, _, .ty "str", _, _, true, rfl, .ty _, .base (.str _), kit_ty (by decide +kernel), _, rfl, iteF ?_⟩⟩⟩
    refine ⟨_, rfl, ra, _, 0, .str r.kd.s, rfl, rfl, SqT.of hra, atI_nat (j := 0) r.vs0, _, _, rfl, rfl, hL, _, rfl, iteT ⟨_, rfl, ra, _, rfl, .inr (SqT.of hra), _, rfl, ra, _, 0, .str r.kd.s, rfl, rfl, SqT.of hra, atI_nat (j := 0) r.vs0, dL, r.kd.s, .int (r.kd.n : Int), rfl, rfl, ⟨eL, nL, _, LE.D.at_, LE.D.lit, hL, ⟨_, rfl⟩⟩, rfl, ?_⟩⟩
    rw [r.vs_len, decide_eq_true rfl]
    exact q
theorem sc_row_point : FnScope ["row", "points", "given", "rule", "point"] ["row", "points", "given"] (defScope s_row_point) := ⟨rfl, rfl, rfl, by decide +kernel, rfl, by decide +kernel, by decide +kernel⟩
theorem ok_row_point {f : Addr} {fd : FuncData} {dP : Addr} {eP : Array DictEntry} {nP : Nat} (RU : Ruls P w K mg base dP eP nP) (NC : NCst mg) (F : Fun K "row_point" "row_point" s_row_point f fd) (z : Zs mg) (c_is_written_as_row : Cal P w K mg base 1 "is_written_as_row" ["thing"] spWritten) : FnOk P w K mg base CX0 4 f fd ["row", "points", "given"] spRowPt := by
  refine F.ok sc_row_point (fun vs H Q E h => ?_) (fun cdv A outer s H vs Q E hr h => ?_)
  · obtain ⟨ra, pa, gv, r, en, hp, fp, pts, rfl, _⟩ := h
    rfl
  · obtain ⟨ra, pa, gv, r, en, hp, fp, pts, rfl, hra, hpa, hg, hok, p0, p1, q⟩ := h
    obtain ⟨fR, fdR, h1, hK, hB, hF⟩ := RU.at_ r.kd
    refine ⟨_, (pss_cons (ps_if (pt_not (pt_val (pe_cal c_is_written_as_row hr (pa_cons (pv 0) pa_nil)))) (pss_one (ps_ret pe_non)) pss_nil)
      (pss_cons (ps_set (i := 3) sc_row_point.nd rfl (.inl rfl) (pe_ix ix_kdict (pe_glob (v := .ref dP) (by rfl) RU.gm rfl) (pe_ix ix_tup (pv 0) pe_int (fun _ _ => rfl)) (fun _ _ => rfl)))
      (pss_cons (ps_set (i := 4) sc_row_point.nd rfl (.inl rfl) (pe_callL (i := 3) hF hr rfl (Or.inl rfl) hK hB .nil pass0 (pa_cons (pv 0) (pa_cons (pv 1) (pa_cons (pv 2) pa_nil)))))
      (pss_one (ps_ret (pe_ifExp (PW.pt (pw_and (pt_cmpR op_notN (pv 4) pe_non (nomark _)) (pw_and1 (pt_cmpR op_le (pe_callB call_abs (by rfl) z.abs (by decide +kernel) (pa_cons (pv 4) pa_nil)) (pe_glob (v := .int 200) (by rfl) NC.gr.choose_spec ⟨_, rfl⟩) (nomark _))))) (pv 4) pe_non)))))), ?_⟩
    refine ⟨_, rfl, ra, r, rfl, hra, _, rfl, iteF ?_⟩
    refine ⟨_, rfl, ra, _, 0, .str r.kd.s, rfl, rfl, SqT.of hra, atI_nat (j := 0) r.vs0, dP, r.kd.s, .ref fR, rfl, rfl, ⟨eP, nP, _, RU.D.at_, RU.D.lit, h1, rfl⟩, ?_⟩
    refine ⟨rfl, _, rfl, _, rfl, _, rfl, ra, pa, gv, r, en, hp, fp, pts, rfl, hra, rfl, hpa, hg, hok, ?_⟩
    refine ⟨_, rfl, rfl, _, rfl, iteT ⟨_, rfl, _, rfl, _, _, rfl, rfl, _, rfl, iteC (d := true) (decide_eq_true (by split <;> omega)) (iteT ⟨_, rfl, q⟩)⟩⟩
end
end E1

namespace E1
open PySem PySem.Spec PyProof.Rows L2

/-- what the written part says of the class of forms -/
structure IsC (K : PySem.W.Frag) (mg : Str → Option Value) (C : Addr) : Prop where
  gC : mg "Form" = some (.ref C)
  ha : PySem.W.findIn K (.ref C) "__class__" = some (some (.builtin "object.__class__"))
  hn : PySem.W.specialIn K (.builtin "object.__class__") "__get__" = some (some (.builtin "getset_descriptor.__get__"))
  ht : PySem.W.takesIn K (.builtin "object.__class__") = some true
  hm : PySem.W.mroIn K C (.type "object") = some true
  kC : PySem.W.kitOne K (.ref C) (.ref C) = some true
def spLen4 : Sp := fun vs H Q _ => ∃ (a : Addr) (xs : List V) (z : Str) (lo hi : Int), vs = [.ref a, .str z, .int lo, .int hi] ∧ H a = some (.lst xs) ∧ lo ≤ xs.length ∧ (xs.length : Int) ≤ hi ∧ Q .non H
def spCkForms (C : Addr) : Sp := fun vs H Q _ => ∃ (a : Addr) (fv : List V) (fs : List FormP), vs = [.ref a] ∧ H a = some (.lst fv) ∧ FsAt C H fv fs ∧ 1 ≤ fs.length ∧ fs.length ≤ 12 ∧ ∀ H', Same H H' → Q .non H'
def spIsHold (C : Addr) : Sp := fun vs H Q _ => ∃ (ta a : Addr) (fv : List V) (fs : List FormP) (h : Hold) (f : FormP), vs = [.ref ta, .ref a] ∧ H ta = some (.tup h.vs) ∧ H a = some (.lst fv) ∧ FsAt C H fv fs ∧ fs[h.k]? = some f ∧ inR f.w h.s = true ∧ Q (.bl true) H
def spCkHolds (C : Addr) : Sp := fun vs H Q _ => ∃ (b a : Addr) (hv fv : List V) (fs : List FormP) (hs : List Hold), vs = [.ref b, .ref a] ∧ H b = some (.lst hv) ∧ TsAt H hv (hs.map Hold.vs) ∧ H a = some (.lst fv) ∧ FsAt C H fv fs ∧ hs.length ≤ 6 ∧ (∀ h ∈ hs, h.k < fs.length ∧ ∀ f, fs[h.k]? = some f → inR f.w h.s = true) ∧ ∀ H', Same H H' → Q .non H'
def spCkPts : Sp := fun vs H Q _ => ∃ (ra gv : Addr) (rv : List V) (rows : List Row) (en : Int) (hp fp : List Int), vs = [.ref ra, .ref gv] ∧ H ra = some (.lst rv) ∧ TsAt H rv (rows.map Row.vs) ∧ GivenAt H gv en hp fp ∧ 1 ≤ rows.length ∧ rows.length ≤ 60 ∧ (∀ i r, rows[i]? = some r → RowOk hp.length fp.length i r) ∧ (∀ p ∈ ptsOf en hp fp rows, -200 ≤ p ∧ p ≤ 200) ∧
  ∀ p H', Same H H' → H p = none → H' p = some (.lst ((ptsOf en hp fp rows).map V.int)) → Q (.ref p) H'
def spCkLinks : Sp := fun vs H Q _ => ∃ (b ra : Addr) (hv rv : List V) (hs : List Hold) (rows : List Row), vs = [.ref b, .ref ra] ∧ H b = some (.lst hv) ∧ TsAt H hv (hs.map Hold.vs) ∧ H ra = some (.lst rv) ∧ TsAt H rv (rows.map Row.vs) ∧ (∀ h ∈ hs, ∃ a, rows[h.l]? = some (.keep h.k a)) ∧ ∀ H', Same H H' → Q .non H'
def spNetInit (C CN : Addr) : Sp := fun vs H Q _ => ∃ (p dx fl rl hl : Addr) (n : NetP) (fv rv hv : List V), vs = [.ref p, .ref fl, .int n.en, .ref rl, .ref hl, .int n.out] ∧ H p = some (.ins CN dx []) ∧ H fl = some (.lst fv) ∧ FsAt C H fv n.fs ∧ H rl = some (.lst rv) ∧ TsAt H rv (n.rows.map Row.vs) ∧ H hl = some (.lst hv) ∧ TsAt H hv (n.holds.map Hold.vs) ∧ NetOk n ∧
  ∀ H', NetAt C CN H' p n → (∀ b o, b ≠ p → H b = some o → H' b = some o) → Q .non H'
theorem GivenAt.same {H H' : Hp} {gv : Addr} {en : Int} {hp fp : List Int} (h : GivenAt H gv en hp fp) (s : Same H H') : GivenAt H' gv en hp fp := by
  obtain ⟨ha, fa, a, b, c⟩ := h
  exact ⟨ha, fa, s _ _ a, s _ _ b, s _ _ c⟩
theorem ptsOf_next {en : Int} {hp fp : List Int} {rows : List Row} {i : Nat} {r : Row} (h : rows[i]? = some r) : ptsOf en hp fp (rows.take (i + 1)) = ptsOf en hp fp (rows.take i) ++ [rowPt en hp fp (ptsOf en hp fp (rows.take i)) r] := by
  rw [List.take_add_one, h, Option.toList_some, ptsOf_snoc]
theorem ptsOf_in {en : Int} {hp fp : List Int} {rows : List Row} {i : Nat} {r : Row} (h : rows[i]? = some r) : rowPt en hp fp (ptsOf en hp fp (rows.take i)) r ∈ ptsOf en hp fp rows := by
  have e := ptsOf_take en hp fp rows (i + 1)
  rw [ptsOf_next h] at e
  have : rowPt en hp fp (ptsOf en hp fp (rows.take i)) r ∈ (ptsOf en hp fp rows).take (i + 1) := by
    rw [e]
    exact List.mem_append.mpr (.inr (List.mem_singleton.mpr rfl))
  exact List.mem_of_mem_take this
theorem putF_app {k : Str} {v : V} : ∀ {l : List (Str × V)}, ((l.map (·.1)).all fun x => decide (x ≠ k)) = true → putF k v l = l ++ [(k, v)]
  | [], _ => rfl
  | (g, x) :: r, h => by
    rw [List.map_cons, List.all_cons, Bool.and_eq_true, decide_eq_true_eq] at h
    show (if g = k then (g, v) :: r else (g, x) :: putF k v r) = _
    rw [if_neg h.1, putF_app h.2]
    rfl
theorem kp_lay (k : Int) : PyData.canLay0 (.tuple [.str "keep", .int k]) = true := by
  simp only [PyData.canLay0, PyData.canLayAll0, Bool.and_true]
  decide +kernel
theorem kp_shaped (k : Int) : SeqAt.shaped (.tuple [.str "keep", .int k]) = true := by
  show (PyData.canLay0 (.tuple [.str "keep", .int k]) && decide (PyData.depth (.tuple [.str "keep", .int k]) ≤ 64)) = true
  rw [kp_lay, Bool.true_and]
  simp only [PyData.depth, PyData.depthAll]
  rfl
def fks : List Str := ["form_list", "enters_at", "row_list", "hold_list", "out_at", "point_list"]
theorem fks_new : ∀ i : Fin 6, ((fks.take i.val).all fun x => decide (x ≠ fks[i.val]'i.isLt)) = true := by decide +kernel
theorem nf0 {a : V} : putF "form_list" a [] = [(("form_list" : Str), a)] := rfl
theorem nf1 {a b : V} : putF "enters_at" b [(("form_list" : Str), a)] = [(("form_list" : Str), a), ("enters_at", b)] := putF_app (fks_new 1)
theorem nf2 {a b c : V} : putF "row_list" c [(("form_list" : Str), a), ("enters_at", b)] = [(("form_list" : Str), a), ("enters_at", b), ("row_list", c)] := putF_app (fks_new 2)
theorem nf3 {a b c d : V} : putF "hold_list" d [(("form_list" : Str), a), ("enters_at", b), ("row_list", c)] = [(("form_list" : Str), a), ("enters_at", b), ("row_list", c), ("hold_list", d)] := putF_app (fks_new 3)
theorem nf4 {a b c d e : V} : putF "out_at" e [(("form_list" : Str), a), ("enters_at", b), ("row_list", c), ("hold_list", d)] = [(("form_list" : Str), a), ("enters_at", b), ("row_list", c), ("hold_list", d), ("out_at", e)] := putF_app (fks_new 4)
theorem nf5 {a b c d e f : V} : putF "point_list" f [(("form_list" : Str), a), ("enters_at", b), ("row_list", c), ("hold_list", d), ("out_at", e)] = [(("form_list" : Str), a), ("enters_at", b), ("row_list", c), ("hold_list", d), ("out_at", e), ("point_list", f)] := putF_app (fks_new 5)
section
variable {P : Program} {w : World} {K : PySem.W.Frag} {mg : Str → Option Value} {base : Heap}
theorem sc_check_length : FnScope ["thing", "part", "least", "most"] ["thing", "part", "least", "most"] (defScope s_check_length) := ⟨rfl, rfl, rfl, by decide +kernel, rfl, by decide +kernel, by decide +kernel⟩
theorem ok_check_length {f : Addr} {fd : FuncData} {k : Nat} (F : Fun K "check_length" "check_length" s_check_length f fd) (z : Zs mg) : FnOk P w K mg base CX0 (k + 1) f fd ["thing", "part", "least", "most"] spLen4 := by
  refine F.ok sc_check_length (fun vs H Q E h => ?_) (fun cdv A outer s H vs Q E hr h => ?_)
  · obtain ⟨a, xs, zz, lo, hi, rfl, _⟩ := h
    rfl
  · obtain ⟨a, xs, zz, lo, hi, rfl, ha, l0, l1, q⟩ := h
    refine ⟨_, (pss_one (ps_if (PW.pt (pw_or (pt_not (pt_val (pe_callB call_isi (by rfl) z.isinstance (by decide +kernel) (pa_cons (pv 0) (pa_cons (pe_bltn (v := .ty "list") (by rfl) z.list (by decide +kernel) rfl) pa_nil))))) (pw_or1 (pt_not (pt_chain op_le op_le (pv 2) (pe_callB call_len_seq (by rfl) z.len PySem.boot_len (pa_cons (pv 0) pa_nil)) (pv 3)))))) (pss_one ps_never) pss_nil)), ?_⟩
    refine ⟨_, rfl, _, .ty "list", _, _, true, rfl, .ty _, .base (.lst ha), kit_ty (by decide +kernel), _, rfl, iteF ⟨_, rfl, _, rfl, a, _, rfl, .inl (SqL.of ha), _, _, rfl, rfl, _, rfl, ?_⟩⟩
    refine iteC (d := true) (decide_eq_true l0) (iteT ⟨_, rfl, _, _, rfl, rfl, _, rfl, ?_⟩)
    exact iteC (d := false) (by rw [decide_eq_true (show (xs.length : Int) ≤ hi from l1)]; rfl) (iteF q)
theorem sc_check_forms : FnScope ["forms", "at", "form"] ["forms"] (defScope s_check_forms) := ⟨rfl, rfl, rfl, by decide +kernel, rfl, by decide +kernel, by decide +kernel⟩
theorem ok_check_forms {f : Addr} {fd : FuncData} {C : Addr} (T : FTxt K mg C) (IC : IsC K mg C) (NC : NCst mg) (F : Fun K "check_forms" "check_forms" s_check_forms f fd) (z : Zs mg) (c_check_length : Cal P w K mg base 1 "check_length" ["thing", "part", "least", "most"] spLen4) : FnOk P w K mg base CX0 2 f fd ["forms"] (spCkForms C) := by
  refine F.ok sc_check_forms (fun vs H Q E h => ?_) (fun cdv A outer s H vs Q E hr h => ?_)
  · obtain ⟨a, fv, fs, rfl, _⟩ := h
    rfl
  · obtain ⟨a, fv, fs, rfl, ha, hf, l0, l1, q⟩ := h
    refine ⟨_, (pss_cons (ps_expr (pe_cal c_check_length hr (pa_cons (pv 0) (pa_cons pe_str (pa_cons pe_int (pa_cons (pe_glob (v := .int 12) (by rfl) NC.mf.choose_spec ⟨_, rfl⟩) pa_nil))))))
      (pss_one (ps_for PassesOwn.never rfl (pi_enum (by rfl) z.enumerate (pa_cons (pv 0) pa_nil)) (pg_tup (by rfl) (pgs_cons (pg_name (i := 1) sc_check_forms.nd rfl (.inl rfl)) (pgs_cons (pg_name (i := 2) sc_check_forms.nd rfl (.inl rfl)) pgs_nil))) (pss_one (ps_if (pt_not (pt_val (pe_callB call_isi (by rfl) z.isinstance (by decide +kernel) (pa_cons (pv 2) (pa_cons (pe_glob (v := .ref C) (by rfl) IC.gC rfl) pa_nil))))) (pss_one ps_never) pss_nil))))), ?_⟩
    have ll := hf.len
    refine ⟨_, rfl, a, fv, _, _, _, rfl, ha, by omega, by omega, ?_⟩
    refine ⟨_, rfl, a, _, rfl, SqL.of ha, for_it (walk_enum (K := K) (a := a) (xs := fv)) (fun i σ H' => ∃ y3 y4 : Option V, σ = [some (.ref a), y3, y4] ∧ Same H H') ⟨none, none, rfl, Same.refl _⟩ (fun i σ H' _ hP => ?_) (fun i v σ H1 H2 hi hP hY => ?_) (fun σ H' hP => ?_)⟩
    · obtain ⟨y3, y4, rfl, s1⟩ := hP
      exact SqL.of (s1 _ _ ha)
    · obtain ⟨y3, y4, rfl, s1⟩ := hP
      obtain ⟨Tp, u, v', rfl, nT, rfl, e1, e2⟩ := hY
      cases e1
      obtain ⟨p, f, rfl, _, hp⟩ := hf.get e2
      have s2 := s1.trans (same_new (o := .tup [.int (i : Nat), .ref p]) nT)
      obtain ⟨dx, ho⟩ := (FormAt.same hp s2).ob
      refine ⟨Tp, _, rfl, SqT.of upd_same, rfl, _, _, rfl, _, _, rfl, rfl, ?_⟩
      exact ⟨_, rfl, _, .ref C, .ref C, .ref C, true, rfl, .own C, .base (.ins ho T.cl IC.ha IC.hn IC.ht IC.hm), IC.kC, _, rfl, iteF ⟨_, _, rfl, s2⟩⟩
    · obtain ⟨y3, y4, rfl, s1⟩ := hP
      exact q _ s1
theorem sc_is_hold : FnScope ["thing", "forms"] ["thing", "forms"] (defScope s_is_hold) := ⟨rfl, rfl, rfl, by decide +kernel, rfl, by decide +kernel, by decide +kernel⟩
theorem ok_is_hold {f : Addr} {fd : FuncData} {C : Addr} (T : FTxt K mg C) (F : Fun K "is_hold" "is_hold" s_is_hold f fd) (z : Zs mg) (c_is_place : Cal P w K mg base 2 "is_place" ["thing", "many"] spPlace) (m_has : CalM P w K mg base 2 C "has" ["self", "thing"] (spHas K C)) : FnOk P w K mg base CX0 3 f fd ["thing", "forms"] (spIsHold C) := by
  refine F.ok sc_is_hold (fun vs H Q E h => ?_) (fun cdv A outer s H vs Q E hr h => ?_)
  · obtain ⟨ta, a, fv, fs, h, f, rfl, _⟩ := h
    rfl
  · obtain ⟨ta, a, fv, fs, h, f, rfl, hta, ha, hf, hk, hin, q⟩ := h
    refine ⟨_, (pss_cons (ps_if (PW.pt (pw_or (pt_not (pt_val (pe_callB call_isi (by rfl) z.isinstance (by decide +kernel) (pa_cons (pv 0) (pa_cons (pe_bltn (v := .ty "tuple") (by rfl) z.tuple (by decide +kernel) rfl) pa_nil))))) (pw_or1 (pt_cmpR op_ne (pe_callB call_len_seq (by rfl) z.len PySem.boot_len (pa_cons (pv 0) pa_nil)) pe_int (nomark _))))) (pss_one (ps_ret pe_bl)) pss_nil)
      (pss_one (ps_ret (pe_and (pe_cal c_is_place hr (pa_cons (pe_ix ix_tup (pv 0) pe_int (fun _ _ => rfl)) (pa_cons (pe_callB call_len_seq (by rfl) z.len PySem.boot_len (pa_cons (pv 1) pa_nil)) pa_nil))) (pe_one (pe_calm (pe_ix ix_list (pv 1) (pe_ix ix_tup (pv 0) pe_int (fun _ _ => rfl)) (fun _ _ => rfl)) T.cl m_has hr (pa_cons (pe_ix ix_tup (pv 0) pe_int (fun _ _ => rfl)) pa_nil))))))), ?_⟩
    have ll := hf.len
    have kl : h.k < fs.length := (List.getElem?_eq_some_iff.mp hk).1
    obtain ⟨p, ep, fp⟩ := hf.at hk
    obtain ⟨dx, ho⟩ := fp.ob
    refine ⟨_, rfl, _, .ty "tuple", _, _, true, rfl, .ty _, .base (.tup hta), kit_ty (by decide +kernel), _, rfl, iteF ⟨_, rfl, ta, _, rfl, .inr (SqT.of hta), rfl, _, rfl, iteF ?_⟩⟩
    refine ⟨_, rfl, ta, _, 0, .int h.k, rfl, rfl, SqT.of hta, a0, _, rfl, a, _, rfl, .inl (SqL.of ha), _, _, rfl, by omega, by omega, _, rfl, iteT ?_⟩
    refine ⟨_, rfl, _, rfl, ta, _, 0, .int h.k, rfl, rfl, SqT.of hta, a0, a, _, _, .ref p, rfl, rfl, SqL.of ha, atI_nat ep, p, dx, _, rfl, ho, fl_no (by decide +kernel), _, rfl, ta, _, 1, .int h.s, rfl, rfl, SqT.of hta, a1, p, f.w, f.pt, f.m, f.st, .int h.s, _, rfl, fp, .inl ⟨_, rfl, rfl⟩, ?_⟩
    rw [hin]
    exact q
theorem sc_check_holds : FnScope ["holds", "forms", "at", "hold"] ["holds", "forms"] (defScope s_check_holds) := ⟨rfl, rfl, rfl, by decide +kernel, rfl, by decide +kernel, by decide +kernel⟩
theorem ok_check_holds {f : Addr} {fd : FuncData} {C : Addr} (NC : NCst mg) (F : Fun K "check_holds" "check_holds" s_check_holds f fd) (z : Zs mg) (c_check_length : Cal P w K mg base 1 "check_length" ["thing", "part", "least", "most"] spLen4) (c_is_hold : Cal P w K mg base 3 "is_hold" ["thing", "forms"] (spIsHold C)) : FnOk P w K mg base CX0 4 f fd ["holds", "forms"] (spCkHolds C) := by
  refine F.ok sc_check_holds (fun vs H Q E h => ?_) (fun cdv A outer s H vs Q E hr h => ?_)
  · obtain ⟨b, a, hv, fv, fs, hs, rfl, _⟩ := h
    rfl
  · obtain ⟨b, a, hv, fv, fs, hs, rfl, hb, ht, ha, hf, l1, ho, q⟩ := h
    refine ⟨_, (pss_cons (ps_expr (pe_cal c_check_length hr (pa_cons (pv 0) (pa_cons pe_str (pa_cons pe_int (pa_cons (pe_glob (v := .int 6) (by rfl) NC.mh.choose_spec ⟨_, rfl⟩) pa_nil))))))
      (pss_one (ps_for PassesOwn.never rfl (pi_enum (by rfl) z.enumerate (pa_cons (pv 0) pa_nil)) (pg_tup (by rfl) (pgs_cons (pg_name (i := 2) sc_check_holds.nd rfl (.inl rfl)) (pgs_cons (pg_name (i := 3) sc_check_holds.nd rfl (.inl rfl)) pgs_nil))) (pss_one (ps_if (pt_not (pt_val (pe_cal c_is_hold hr (pa_cons (pv 3) (pa_cons (pv 1) pa_nil))))) (pss_one ps_never) pss_nil))))), ?_⟩
    have ll := ht.len
    rw [List.length_map] at ll
    refine ⟨_, rfl, b, hv, _, _, _, rfl, hb, by omega, by omega, ?_⟩
    refine ⟨_, rfl, b, _, rfl, SqL.of hb, for_it (walk_enum (K := K) (a := b) (xs := hv)) (fun i σ H' => ∃ y3 y4 : Option V, σ = [some (.ref b), some (.ref a), y3, y4] ∧ Same H H') ⟨none, none, rfl, Same.refl _⟩ (fun i σ H' _ hP => ?_) (fun i v σ H1 H2 hi hP hY => ?_) (fun σ H' hP => ?_)⟩
    · obtain ⟨y3, y4, rfl, s1⟩ := hP
      exact SqL.of (s1 _ _ hb)
    · obtain ⟨y3, y4, rfl, s1⟩ := hP
      obtain ⟨Tp, u, v', rfl, nT, rfl, e1, e2⟩ := hY
      cases e1
      obtain ⟨p, xs, rfl, ex, hp⟩ := ht.get e2
      rw [List.getElem?_map] at ex
      obtain ⟨hh, eh, rfl⟩ := Option.map_eq_some_iff.mp ex
      obtain ⟨o1, o2⟩ := ho hh (List.mem_of_getElem? eh)
      have s2 := s1.trans (same_new (o := .tup [.int (i : Nat), .ref p]) nT)
      refine ⟨Tp, _, rfl, SqT.of upd_same, rfl, _, _, rfl, _, _, rfl, rfl, ?_⟩
      refine ⟨_, rfl, _, rfl, p, a, fv, fs, hh, fs[hh.k], rfl, s2 _ _ hp, s2 _ _ ha, hf.same s2, List.getElem?_eq_getElem o1, o2 _ (List.getElem?_eq_getElem o1), _, rfl, iteF ⟨_, _, rfl, s2⟩⟩
    · obtain ⟨y3, y4, rfl, s1⟩ := hP
      exact q _ s1
theorem sc_checked_points : FnScope ["rows", "given", "points", "at", "row", "point"] ["rows", "given"] (defScope s_checked_points) := ⟨rfl, rfl, rfl, by decide +kernel, rfl, by decide +kernel, by decide +kernel⟩
theorem ok_checked_points {f : Addr} {fd : FuncData} (NC : NCst mg) (F : Fun K "checked_points" "checked_points" s_checked_points f fd) (z : Zs mg) (c_check_length : Cal P w K mg base 1 "check_length" ["thing", "part", "least", "most"] spLen4) (c_row_point : Cal P w K mg base 4 "row_point" ["row", "points", "given"] spRowPt) : FnOk P w K mg base CX0 5 f fd ["rows", "given"] spCkPts := by
  refine F.ok sc_checked_points (fun vs H Q E h => ?_) (fun cdv A outer s H vs Q E hr h => ?_)
  · obtain ⟨ra, gv, rv, rows, en, hp, fp, rfl, _⟩ := h
    rfl
  · obtain ⟨ra, gv, rv, rows, en, hp, fp, rfl, hra, hrs, hg, l0, l1, ro, po, q⟩ := h
    refine ⟨_, (pss_cons (ps_expr (pe_cal c_check_length hr (pa_cons (pv 0) (pa_cons pe_str (pa_cons pe_int (pa_cons (pe_glob (v := .int 60) (by rfl) NC.mr.choose_spec ⟨_, rfl⟩) pa_nil))))))
      (pss_cons (ps_set (i := 2) sc_checked_points.nd rfl (.inl rfl) (pe_lst pa_nil))
      (pss_cons (ps_for PassesOwn.never rfl (pi_enum (by rfl) z.enumerate (pa_cons (pv 0) pa_nil)) (pg_tup (by rfl) (pgs_cons (pg_name (i := 3) sc_checked_points.nd rfl (.inl rfl)) (pgs_cons (pg_name (i := 4) sc_checked_points.nd rfl (.inl rfl)) pgs_nil))) (pss_cons (ps_set (i := 5) sc_checked_points.nd rfl (.inl rfl) (pe_cal c_row_point hr (pa_cons (pv 4) (pa_cons (pv 2) (pa_cons (pv 1) pa_nil)))))
      (pss_cons (ps_if (pt_cmpR op_isN (pv 5) pe_non (nomark _)) (pss_one ps_never) pss_nil)
      (pss_one (ps_expr (pe_bm PySem.F.plainAttrs_list PySem.F.slot_list_append PySem.F.type_list_append mt_append (pv 2) (pa_cons (pv 5) pa_nil)))))))
      (pss_one (ps_ret (pv 2)))))), ?_⟩
    have ll := hrs.len
    rw [List.length_map] at ll
    refine ⟨_, rfl, ra, rv, _, _, _, rfl, hra, by omega, by omega, ?_⟩
    refine ⟨(by show 0 ≤ sizeLine; decide), fun pl hpl => ?_⟩
    generalize hG : upd _ pl _ = G0
    obtain ⟨s0, h_pl⟩ := upd_gen hG hpl
    refine ⟨_, rfl, ra, _, rfl, SqL.of (s0 _ _ hra), for_it (walk_enum (K := K) (a := ra) (xs := rv)) (fun i σ H' => ∃ y3 y4 y5 : Option V, σ = [some (.ref ra), some (.ref gv), some (.ref pl), y3, y4, y5] ∧ Same H H' ∧ H' pl = some (.lst ((ptsOf en hp fp (rows.take i)).map V.int))) ⟨none, none, none, rfl, s0, h_pl⟩ (fun i σ H' _ hP => ?_) (fun i v σ H1 H2 hi hP hY => ?_) (fun σ H' hP => ?_)⟩
    · obtain ⟨y3, y4, y5, rfl, s1, _⟩ := hP
      exact SqL.of (s1 _ _ hra)
    · obtain ⟨y3, y4, y5, rfl, s1, hl⟩ := hP
      obtain ⟨Tp, u, v', rfl, nT, rfl, e1, e2⟩ := hY
      cases e1
      obtain ⟨p, xs, rfl, ex, hp'⟩ := hrs.get e2
      rw [List.getElem?_map] at ex
      obtain ⟨r, er, rfl⟩ := Option.map_eq_some_iff.mp ex
      have sn := same_new (o := .tup [.int (i : Nat), .ref p]) nT
      have s2 := s1.trans sn
      have hl2 := sn _ _ hl
      have li : (ptsOf en hp fp (rows.take i)).length = i := by
        rw [ptsOf_len, List.length_take]
        have := (List.getElem?_eq_some_iff.mp er).1
        omega
      obtain ⟨b0, b1⟩ := po _ (ptsOf_in er)
      refine ⟨Tp, _, rfl, SqT.of upd_same, rfl, _, _, rfl, _, _, rfl, rfl, ?_⟩
      refine ⟨_, rfl, _, rfl, _, rfl, p, pl, gv, r, en, hp, fp, _, rfl, s2 _ _ hp', hl2, hg.same s2, by rw [li]; exact ro i r er, b0, b1, ?_⟩
      refine ⟨_, rfl, rfl, _, rfl, iteF ⟨_, rfl, .inl ⟨rfl, _, SqL.of hl2⟩, _, rfl, pl, _, _, rfl, rfl, hl2, ?_, ?_⟩⟩
      · rw [List.length_map, li]
        exact sl_lt (by omega)
      · refine ⟨_, _, _, rfl, fun b o e => ?_, ?_⟩
        · rw [upd_ne (ne_of_none e hpl)]
          exact s2 _ _ e
        · rw [upd_same, ptsOf_next er, List.map_append]
          rfl
    · obtain ⟨y3, y4, y5, rfl, s1, hl⟩ := hP
      rw [ll, List.take_length] at hl
      exact ⟨_, rfl, q pl _ s1 hpl hl⟩
theorem sc_check_links : FnScope ["holds", "rows", "at", "hold"] ["holds", "rows"] (defScope s_check_links) := ⟨rfl, rfl, rfl, by decide +kernel, rfl, by decide +kernel, by decide +kernel⟩
theorem ok_check_links {f : Addr} {fd : FuncData} (F : Fun K "check_links" "check_links" s_check_links f fd) (z : Zs mg) (c_is_place : Cal P w K mg base 2 "is_place" ["thing", "many"] spPlace) : FnOk P w K mg base CX0 3 f fd ["holds", "rows"] spCkLinks := by
  refine F.ok sc_check_links (fun vs H Q E h => ?_) (fun cdv A outer s H vs Q E hr h => ?_)
  · obtain ⟨b, ra, hv, rv, hs, rows, rfl, _⟩ := h
    rfl
  · obtain ⟨b, ra, hv, rv, hs, rows, rfl, hb, ht, hra, hrs, ho, q⟩ := h
    refine ⟨_, (pss_one (ps_for PassesOwn.never rfl (pi_enum (by rfl) z.enumerate (pa_cons (pv 0) pa_nil)) (pg_tup (by rfl) (pgs_cons (pg_name (i := 2) sc_check_links.nd rfl (.inl rfl)) (pgs_cons (pg_name (i := 3) sc_check_links.nd rfl (.inl rfl)) pgs_nil))) (pss_one (ps_if (PW.pt (pw_or (pt_not (pt_val (pe_cal c_is_place hr (pa_cons (pe_ix ix_tup (pv 3) pe_int (fun _ _ => rfl)) (pa_cons (pe_callB call_len_seq (by rfl) z.len PySem.boot_len (pa_cons (pv 1) pa_nil)) pa_nil))))) (pw_or1 (pt_cmpR (op_neD hr.units) (pe_slice sl_tup (pe_ix ix_list (pv 1) (pe_ix ix_tup (pv 3) pe_int (fun _ _ => rfl)) (fun _ _ => rfl)) po_none (po_some pe_int)) (pe_tup (pa_cons pe_str (pa_cons (pe_ix ix_tup (pv 3) pe_int (fun _ _ => rfl)) pa_nil))) (nomark _))))) (pss_one ps_never) pss_nil)))), ?_⟩
    have ll := hrs.len
    rw [List.length_map] at ll
    refine ⟨_, rfl, b, _, rfl, SqL.of hb, for_it (walk_enum (K := K) (a := b) (xs := hv)) (fun i σ H' => ∃ y3 y4 : Option V, σ = [some (.ref b), some (.ref ra), y3, y4] ∧ Same H H') ⟨none, none, rfl, Same.refl _⟩ (fun i σ H' _ hP => ?_) (fun i v σ H1 H2 hi hP hY => ?_) (fun σ H' hP => ?_)⟩
    · obtain ⟨y3, y4, rfl, s1⟩ := hP
      exact SqL.of (s1 _ _ hb)
    · obtain ⟨y3, y4, rfl, s1⟩ := hP
      obtain ⟨Tp, u, v', rfl, nT, rfl, e1, e2⟩ := hY
      cases e1
      obtain ⟨p, xs, rfl, ex, hp⟩ := ht.get e2
      rw [List.getElem?_map] at ex
      obtain ⟨hh, eh, rfl⟩ := Option.map_eq_some_iff.mp ex
      obtain ⟨a, ea⟩ := ho hh (List.mem_of_getElem? eh)
      have s2 := s1.trans (same_new (o := .tup [.int (i : Nat), .ref p]) nT)
      have al := (List.getElem?_eq_some_iff.mp ea).1
      obtain ⟨rp, erp, hrp⟩ := hrs.at (i := hh.l) (xs := (Row.keep hh.k a).vs) (by rw [List.getElem?_map, ea]; rfl)
      have hp2 := s2 _ _ hp
      refine ⟨Tp, _, rfl, SqT.of upd_same, rfl, _, _, rfl, _, _, rfl, rfl, ?_⟩
      refine ⟨_, rfl, p, _, 2, .int hh.l, rfl, rfl, SqT.of hp2, a2, _, rfl, ra, _, rfl, .inl (SqL.of (s2 _ _ hra)), _, _, rfl, by omega, by omega, _, rfl, iteF ?_⟩
      refine ⟨_, rfl, _, rfl, p, _, 2, .int hh.l, rfl, rfl, SqT.of hp2, a2, ra, _, _, .ref rp, rfl, rfl, SqL.of (s2 _ _ hra), atI_nat erp, _, rfl, rp, _, rfl, SqT.of (s2 _ _ hrp), (by show ¬ (HT.sIx 3 0 none = 0 ∧ HT.sIx 3 3 (some 2) = 3); decide), fun c1 hc1 => ?_⟩
      generalize hG : upd _ c1 _ = G1
      obtain ⟨s3, h_c1⟩ := upd_gen hG hc1
      refine ⟨_, rfl, p, _, 0, .int hh.k, rfl, rfl, SqT.of (s3 _ _ hp2), a0, (by show 2 ≤ sizeLine; decide), fun c2 hc2 => ?_⟩
      generalize hG2 : upd _ c2 _ = G2
      obtain ⟨s4, h_c2⟩ := upd_gen hG2 hc2
      refine ⟨.tuple [.str "keep", .int hh.k], .tuple [.str "keep", .int hh.k], .tup (SqT.of (s4 _ _ h_c1)) (.cons (.str _) (.cons (.int _) .nil)), .tup (SqT.of h_c2) (.cons (.str _) (.cons (.int _) .nil)), kp_shaped _, kp_shaped _, _, rfl, ?_⟩
      refine iteC (d := false) (by rw [SeqAt.eqv_refl _ (kp_lay _)]; rfl) (iteF ⟨_, _, rfl, (s2.trans s3).trans s4⟩)
    · obtain ⟨y3, y4, rfl, s1⟩ := hP
      exact q _ s1
end
end E1

namespace E1
open PySem PySem.Spec PyProof.Rows L2

theorem upd_but {H G : Hp} {p : Addr} {o : HO} (e : upd H p o = G) : SameBut p H G ∧ G p = some o := by
  subst e
  exact ⟨SameBut.upd, upd_same⟩
theorem FsAt.butI {C CN p dx : Addr} {H H' : Hp} {vs : List V} {fs : List FormP} (h : FsAt C H vs fs) (s : SameBut p H H') (hp : H p = some (.ins CN dx [])) : FsAt C H' vs fs := by
  induction h with
  | nil => exact .nil
  | cons e _ ih =>
    obtain ⟨d, ho⟩ := e.ob
    exact .cons ⟨⟨d, s _ _ (fun z => by rw [z, hp] at ho; cases ho) ho⟩, e.wo, e.p0, e.p1⟩ ih
structure NTxt (K : PySem.W.Frag) (mg : Str → Option Value) (CN : Addr) : Prop where
  cl : Cls K CN
  n_form_list : NoAttr K CN "form_list"
  n_enters_at : NoAttr K CN "enters_at"
  n_row_list : NoAttr K CN "row_list"
  n_hold_list : NoAttr K CN "hold_list"
  n_out_at : NoAttr K CN "out_at"
  n_point_list : NoAttr K CN "point_list"
section
variable {P : Program} {w : World} {K : PySem.W.Frag} {mg : Str → Option Value} {base : Heap}
theorem sc_Net___init__ : FnScope ["self", "forms", "enters", "rows", "holds", "out", "form_points", "hold_points", "points", "form", "hold"] ["self", "forms", "enters", "rows", "holds", "out"] (defScope s_Net___init__) := ⟨rfl, rfl, rfl, by decide +kernel, rfl, by decide +kernel, by decide +kernel⟩
theorem ok_Net___init__ {f : Addr} {fd : FuncData} {C CN : Addr} (T : FTxt K mg C) (TN : NTxt K mg CN) (F : Fun K "__init__" "Net.__init__" s_Net___init__ f fd) (z : Zs mg) (c_check_forms : Cal P w K mg base 2 "check_forms" ["forms"] (spCkForms C)) (c_is_place : Cal P w K mg base 2 "is_place" ["thing", "many"] spPlace) (c_check_holds : Cal P w K mg base 4 "check_holds" ["holds", "forms"] (spCkHolds C)) (c_checked_points : Cal P w K mg base 5 "checked_points" ["rows", "given"] spCkPts) (c_check_links : Cal P w K mg base 3 "check_links" ["holds", "rows"] spCkLinks) : FnOk P w K mg base CX0 6 f fd ["self", "forms", "enters", "rows", "holds", "out"] (spNetInit C CN) := by
  refine F.ok sc_Net___init__ (fun vs H Q E h => ?_) (fun cdv A outer s H vs Q E hr h => ?_)
  · obtain ⟨p, dx, fl, rl, hl, n, fv, rv, hv, rfl, _⟩ := h
    rfl
  · obtain ⟨p, dx, fl, rl, hl, n, fv, rv, hv, rfl, hp, hf, hfs, hra, hrs, hha, hhs, ok, q⟩ := h
    refine ⟨_, (pss_cons (ps_expr (pe_cal c_check_forms hr (pa_cons (pv 1) pa_nil)))
      (pss_cons (ps_if (pt_not (pt_val (pe_cal c_is_place hr (pa_cons (pv 2) (pa_cons (pe_callB call_len_seq (by rfl) z.len PySem.boot_len (pa_cons (pv 1) pa_nil)) pa_nil))))) (pss_one ps_never) pss_nil)
      (pss_cons (ps_expr (pe_cal c_check_holds hr (pa_cons (pv 4) (pa_cons (pv 1) pa_nil))))
      (pss_cons (ps_set (i := 6) sc_Net___init__.nd rfl (.inr rfl) (pe_lc (own := [("form", 9)]) (g := gName 9) (tt := tYes) (te := tFld K (tVar 9) "point") (by rfl) sc_Net___init__.nd (pi_list (pv 1)) (blkOk_by (own := [("form", 9)]) (N := ["self", "forms", "enters", "rows", "holds", "out", "form_points", "hold_points", "points", "form", "hold"]) (sc := defScope s_Net___init__) (by decide +kernel)) (fun _ _ _ _ _ => by exact (pg_name (i := 9) sc_Net___init__.nd rfl (.inl rfl))) (fun _ _ _ _ _ => by exact pts_nil) (fun _ _ _ _ _ => by exact (pe_fld (pv 9) rfl))))
      (pss_cons (ps_setLc (i := 7) (own := [("hold", 10)]) (g := gName 10) (tt := tYes) (te := (tOp (rIxL K) (tVar 6) (tOp (rIxT K) (tVar 10) (tC (.int 0))))) (by rfl) sc_Net___init__.nd rfl rfl (sw_true rfl rfl rfl (by decide +kernel)) (pi_list (pv 4)) (blkOk_by (own := [("hold", 10)]) (N := ["self", "forms", "enters", "rows", "holds", "out", "form_points", "hold_points", "points", "form", "hold"]) (sc := defScope s_Net___init__) (by decide +kernel)) (fun _ _ _ _ _ => by exact (pg_name (i := 10) sc_Net___init__.nd rfl (.inl rfl))) (fun _ _ _ _ _ => by exact pts_nil) (fun _ _ _ _ _ => by exact (pe_ix ix_list (pv 6) (pe_ix ix_tup (pv 10) pe_int (fun _ _ => rfl)) (fun _ _ => rfl))))
      (pss_cons (ps_set (i := 8) sc_Net___init__.nd rfl (.inl rfl) (pe_cal c_checked_points hr (pa_cons (pv 3) (pa_cons (pe_tup (pa_cons (pe_ix ix_list (pv 6) (pv 2) (fun _ _ => rfl)) (pa_cons (pv 7) (pa_cons (pv 6) pa_nil)))) pa_nil))))
      (pss_cons (ps_expr (pe_cal c_check_links hr (pa_cons (pv 4) (pa_cons (pv 3) pa_nil))))
      (pss_cons (ps_if (pt_not (pt_val (pe_cal c_is_place hr (pa_cons (pv 5) (pa_cons (pe_callB call_len_seq (by rfl) z.len PySem.boot_len (pa_cons (pv 3) pa_nil)) pa_nil))))) (pss_one ps_never) pss_nil)
      (pss_cons (ps_fld (pv 0) (pe_callTy call_list_of (by rfl) z.list (by decide +kernel) (pa_cons (pv 1) pa_nil)) rfl)
      (pss_cons (ps_fld (pv 0) (pv 2) rfl)
      (pss_cons (ps_fld (pv 0) (pe_callTy call_list_of (by rfl) z.list (by decide +kernel) (pa_cons (pv 3) pa_nil)) rfl)
      (pss_cons (ps_fld (pv 0) (pe_callTy call_list_of (by rfl) z.list (by decide +kernel) (pa_cons (pv 4) pa_nil)) rfl)
      (pss_cons (ps_fld (pv 0) (pv 5) rfl)
      (pss_one (ps_fld (pv 0) (pv 8) rfl))))))))))))))), ?_⟩
    have lf := hfs.len
    have lr := hrs.len
    have lh := hhs.len
    rw [List.length_map] at lr lh
    have en0 := ok.en
    have out0 := ok.out
    refine ⟨_, rfl, fl, fv, n.fs, rfl, hf, hfs, ok.f1, ok.f2, fun H1 s1 => ?_⟩
    refine ⟨_, rfl, _, rfl, fl, _, rfl, .inl (SqL.of (s1 _ _ hf)), _, _, rfl, by omega, by omega, _, rfl, iteF ?_⟩
    refine ⟨_, rfl, _, rfl, hl, fl, hv, fv, n.fs, n.holds, rfl, s1 _ _ hha, hhs.same s1, s1 _ _ hf, hfs.same s1, ok.h2, fun h hm => ⟨(ok.ho h hm).1, (ok.ho h hm).2.1⟩, fun H2 s2 => ?_⟩
    have S2 := s1.trans s2
    refine ⟨_, rfl, fl, rfl, ⟨_, SqL.of (S2 _ _ hf)⟩, fun Da hD => ?_⟩
    refine lc_it (walk_list (K := K) (a := fl) (xs := fv)) (fun i H4 => Same H2 H4 ∧ H4 Da = some (.lst (((n.fs.take i).map (·.pt)).map V.int))) ⟨same_new hD, upd_same⟩ (fun i H4 hi hP => SqL.of (hP.1 _ _ (S2 _ _ hf))) (fun i x' H4 H5 hi hP hy => ?_) (fun H3 hP => ?_)
    · obtain ⟨s4, hD4⟩ := hP
      obtain ⟨rfl, hx⟩ := hy
      obtain ⟨fa, fm, rfl, efm, hfa⟩ := hfs.get hx
      obtain ⟨dxf, hof⟩ := (FormAt.same hfa (S2.trans s4)).ob
      refine ⟨rfl, _, rfl, fa, C, dxf, _, _, rfl, hof, T.cl, T.nP, fl_p, _, hD4, ?_, fun b' o' e' => ?_, ?_⟩
      · rw [List.length_map, List.length_map, List.length_take]
        exact sl_lt (by have := ok.f2; omega)
      · rw [upd_ne (ne_of_none e' hD)]
        exact s4 _ _ e'
      · rw [upd_same, List.take_add_one, efm, List.map_append, List.map_append]
        rfl
    obtain ⟨s3, hDa⟩ := hP
    rw [lf, List.take_length] at hDa
    have S3 := S2.trans s3
    have lfp : (n.fs.map (·.pt)).length = n.fs.length := List.length_map ..
    refine ⟨_, rfl, hl, rfl, ⟨_, SqL.of (S3 _ _ hha)⟩, fun Db hDb => ?_⟩
    refine lc_it (walk_list (K := K) (a := hl) (xs := hv)) (fun i H4 => Same H3 H4 ∧ H4 Db = some (.lst (((n.holds.take i).map fun h => fpt n.fs h.k).map V.int))) ⟨same_new hDb, upd_same⟩ (fun i H4 hi hP => SqL.of (hP.1 _ _ (S3 _ _ hha))) (fun i x' H4 H5 hi hP hy => ?_) (fun H4 hP => ?_)
    · obtain ⟨s4, hD4⟩ := hP
      obtain ⟨rfl, hx⟩ := hy
      obtain ⟨ha, xs, rfl, exs, hha'⟩ := hhs.get hx
      rw [List.getElem?_map] at exs
      obtain ⟨hh, eh, rfl⟩ := Option.map_eq_some_iff.mp exs
      have kl := (ok.ho hh (List.mem_of_getElem? eh)).1
      refine ⟨rfl, _, rfl, _, rfl, ha, _, 0, .int hh.k, rfl, rfl, SqT.of ((S3.trans s4) _ _ hha'), a0, Da, _, _, _, rfl, rfl, SqL.of (s4 _ _ hDa), ints_at (by omega), _, hD4, ?_, fun b' o' e' => ?_, ?_⟩
      · rw [List.length_map, List.length_map, List.length_take]
        exact sl_lt (by have := ok.h2; omega)
      · rw [upd_ne (ne_of_none e' hDb)]
        exact s4 _ _ e'
      · rw [upd_same, List.take_add_one, eh, List.map_append, List.map_append]
        rfl
    obtain ⟨s4, hDb'⟩ := hP
    rw [lh, List.take_length] at hDb'
    have S4 := S3.trans s4
    refine ⟨_, rfl, _, rfl, _, rfl, Da, _, _, _, rfl, rfl, SqL.of (s4 _ _ hDa), ints_at (by omega), _, rfl, _, rfl, (by show 3 ≤ sizeLine; decide), fun gv hgv => ?_⟩
    generalize hG : upd _ gv _ = G5
    obtain ⟨s5, h_gv⟩ := upd_gen hG hgv
    have S5 := S4.trans s5
    have lhp : (hpts n).length = n.holds.length := List.length_map ..
    refine ⟨rl, gv, rv, n.rows, fpt n.fs n.en, hpts n, n.fs.map FormP.pt, rfl, S5 _ _ hra, hrs.same S5, ⟨Db, Da, h_gv, s5 _ _ hDb', s5 _ _ (s4 _ _ hDa)⟩, ok.r1, ok.r2, fun i r e => by rw [lhp, lfp]; exact ok.ro i r e, ok.po, fun pl H6 s6 hpl h_pl => ?_⟩
    have S6 := S5.trans s6
    refine ⟨_, rfl, _, rfl, hl, rl, hv, rv, n.holds, n.rows, rfl, S6 _ _ hha, hhs.same S6, S6 _ _ hra, hrs.same S6, fun h hm => (ok.ho h hm).2.2, fun H7 s7 => ?_⟩
    have S7 := S6.trans s7
    replace h_pl := s7 _ _ h_pl
    refine ⟨_, rfl, _, rfl, rl, _, rfl, .inl (SqL.of (S7 _ _ hra)), _, _, rfl, by omega, by omega, _, rfl, iteF ?_⟩
    have hp0 := hp
    have n_pl : pl ≠ p := (ne_of_none (S5 _ _ hp) hpl).symm
    have nfl : fl ≠ p := ne_of hf hp (fun z => nomatch z)
    have nrl : rl ≠ p := ne_of hra hp (fun z => nomatch z)
    have nhl : hl ≠ p := ne_of hha hp (fun z => nomatch z)
    have B : SameBut p H H7 := .of S7
    replace hp := S7 _ _ hp
    clear s1 s2 s3 s4 s5 s6 s7 S2 S3 S4 S5 S6 S7 hDa hDb' h_gv hG hpl hD hDb hgv
    refine ⟨_, rfl, fl, _, rfl, .inl (SqL.of (B _ _ nfl hf)), fun f2 hf2 => ?_⟩
    have n_f2 : f2 ≠ p := (ne_of_none hp hf2).symm
    generalize hG : upd _ f2 _ = K1
    obtain ⟨s, h_f2⟩ := upd_gen hG hf2
    replace B := B.trans (.of s)
    replace hp := s _ _ hp
    replace h_pl := s _ _ h_pl
    clear hG s
    refine ⟨_, rfl, p, CN, dx, _, rfl, hp, TN.cl, TN.n_form_list, (by show 0 < 1000; decide), ?_⟩
    generalize hG : upd _ p _ = K2
    obtain ⟨s, hp'⟩ := upd_but hG
    replace B := B.trans s
    clear hp
    have hp := hp'
    clear hp'
    rw [nf0] at hp
    replace h_pl := s _ _ n_pl h_pl
    replace h_f2 := s _ _ n_f2 h_f2
    clear hG s
    refine ⟨_, rfl, _, rfl, p, CN, dx, _, rfl, hp, TN.cl, TN.n_enters_at, (by show 1 < 1000; decide), ?_⟩
    generalize hG : upd _ p _ = K3
    obtain ⟨s, hp'⟩ := upd_but hG
    replace B := B.trans s
    clear hp
    have hp := hp'
    clear hp'
    rw [nf1] at hp
    replace h_pl := s _ _ n_pl h_pl
    replace h_f2 := s _ _ n_f2 h_f2
    clear hG s
    refine ⟨_, rfl, rl, _, rfl, .inl (SqL.of (B _ _ nrl hra)), fun r2 hr2 => ?_⟩
    have n_r2 : r2 ≠ p := (ne_of_none hp hr2).symm
    generalize hG : upd _ r2 _ = K4
    obtain ⟨s, h_r2⟩ := upd_gen hG hr2
    replace B := B.trans (.of s)
    replace hp := s _ _ hp
    replace h_pl := s _ _ h_pl
    replace h_f2 := s _ _ h_f2
    clear hG s
    refine ⟨_, rfl, p, CN, dx, _, rfl, hp, TN.cl, TN.n_row_list, (by show 2 < 1000; decide), ?_⟩
    generalize hG : upd _ p _ = K5
    obtain ⟨s, hp'⟩ := upd_but hG
    replace B := B.trans s
    clear hp
    have hp := hp'
    clear hp'
    rw [nf2] at hp
    replace h_pl := s _ _ n_pl h_pl
    replace h_f2 := s _ _ n_f2 h_f2
    replace h_r2 := s _ _ n_r2 h_r2
    clear hG s
    refine ⟨_, rfl, hl, _, rfl, .inl (SqL.of (B _ _ nhl hha)), fun h2 hh2 => ?_⟩
    have n_h2 : h2 ≠ p := (ne_of_none hp hh2).symm
    generalize hG : upd _ h2 _ = K6
    obtain ⟨s, h_h2⟩ := upd_gen hG hh2
    replace B := B.trans (.of s)
    replace hp := s _ _ hp
    replace h_pl := s _ _ h_pl
    replace h_f2 := s _ _ h_f2
    replace h_r2 := s _ _ h_r2
    clear hG s
    refine ⟨_, rfl, p, CN, dx, _, rfl, hp, TN.cl, TN.n_hold_list, (by show 3 < 1000; decide), ?_⟩
    generalize hG : upd _ p _ = K7
    obtain ⟨s, hp'⟩ := upd_but hG
    replace B := B.trans s
    clear hp
    have hp := hp'
    clear hp'
    rw [nf3] at hp
    replace h_pl := s _ _ n_pl h_pl
    replace h_f2 := s _ _ n_f2 h_f2
    replace h_r2 := s _ _ n_r2 h_r2
    replace h_h2 := s _ _ n_h2 h_h2
    clear hG s
    refine ⟨_, rfl, _, rfl, p, CN, dx, _, rfl, hp, TN.cl, TN.n_out_at, (by show 4 < 1000; decide), ?_⟩
    generalize hG : upd _ p _ = K8
    obtain ⟨s, hp'⟩ := upd_but hG
    replace B := B.trans s
    clear hp
    have hp := hp'
    clear hp'
    rw [nf4] at hp
    replace h_pl := s _ _ n_pl h_pl
    replace h_f2 := s _ _ n_f2 h_f2
    replace h_r2 := s _ _ n_r2 h_r2
    replace h_h2 := s _ _ n_h2 h_h2
    clear hG s
    refine ⟨_, rfl, _, rfl, p, CN, dx, _, rfl, hp, TN.cl, TN.n_point_list, (by show 5 < 1000; decide), ?_⟩
    generalize hG : upd _ p _ = K9
    obtain ⟨s, hp'⟩ := upd_but hG
    replace B := B.trans s
    clear hp
    have hp := hp'
    clear hp'
    rw [nf5] at hp
    replace h_pl := s _ _ n_pl h_pl
    replace h_f2 := s _ _ n_f2 h_f2
    replace h_r2 := s _ _ n_r2 h_r2
    replace h_h2 := s _ _ n_h2 h_h2
    clear hG s
    exact q _ ⟨ok, dx, f2, r2, h2, pl, fv, rv, hv, hp, h_f2, FsAt.butI hfs B hp0, h_r2, hrs.mono (fun a xs e => B _ _ (ne_of e hp0 (fun z => nomatch z)) e), h_h2, hhs.mono (fun a xs e => B _ _ (ne_of e hp0 (fun z => nomatch z)) e), h_pl⟩ (fun b o nb e => B b o nb e)
end
end E1

namespace E1
open PySem PySem.Spec PyProof.Rows L2
/-! ### zip of a list and a tuple -/
def ItzM (K : PySem.W.Frag) (a b : Addr) : It where
  go i H := ∃ (xs ys : List V) (x y : V), (SqL K H a xs ∧ xs[i]? = some x) ∧ SqT K H b ys ∧ ys[i]? = some y
  yld i H v H' := ∃ T x y, (v = .ref T ∧ H T = none ∧ H' = upd H T (.tup [x, y])) ∧ (∀ xs, SqL K H a xs → xs[i]? = some x) ∧ ∀ ys, SqT K H b ys → ys[i]? = some y
  stop i H := ∃ xs ys : List V, (SqL K H a xs ∧ SqT K H b ys) ∧ (i = xs.length ∨ i = ys.length) ∧ i ≤ xs.length ∧ i ≤ ys.length
/-- the five cells of such a zip -/
structure ZpM (h : Heap) (z TI TO i1 i2 a b : Addr) (i : Nat) : Prop where
  zip : IsZip h z TI TO .none
  ti : IsPair h TI (.ref i1) (.ref i2)
  to : ∃ x y, IsPair h TO x y
  one : h.IsListIter i1 a i
  two : h.IsTupleIter i2 b i
theorem ZpM.cells {h : Heap} {z TI TO i1 i2 a b : Addr} {i : Nat} (s : ZpM h z TI TO i1 i2 a b i) : ∀ c ∈ [z, TI, TO, i1, i2], ∃ o, h.get? c = some o ∧ ∀ v, o.data ≠ .cell v := fun c hc => by
  obtain ⟨o1, e1, _, d1⟩ := s.one
  obtain ⟨o2, e2, _, d2⟩ := s.two
  obtain ⟨x, y, e3⟩ := s.to
  simp only [List.mem_cons, List.not_mem_nil, or_false] at hc
  rcases hc with rfl | rfl | rfl | rfl | rfl
  · exact ⟨_, s.zip, fun _ n => nomatch n⟩
  · exact ⟨_, s.ti, fun _ n => nomatch n⟩
  · exact ⟨_, e3, fun _ n => nomatch n⟩
  · exact ⟨o1, e1, fun _ n => nomatch d1.symm.trans n⟩
  · exact ⟨o2, e2, fun _ n => nomatch d2.symm.trans n⟩
theorem ZpM.sep {z TI TO i1 i2 a b : Addr} (D : ZipApart z TI TO i1 i2 a b) : ZipSep2 z TI TO i1 i2 [i1, a] [i2, b] := by
  constructor <;> first | exact D.TIz | exact D.TOz | exact D.TITO | exact D.TIi1 | exact D.TIi2 | skip
  all_goals simp only [List.mem_cons, List.not_mem_nil, or_false, true_or, not_or]
  · exact ⟨D.i1z.symm, D.l1z.symm⟩
  · exact ⟨D.TOi1, D.l1TO.symm⟩
  · exact ⟨D.i2z.symm, D.l2z.symm⟩
  · exact ⟨D.TOi2, D.l2TO.symm⟩
  · exact ⟨D.i12, D.l2i1.symm⟩
  · exact ⟨D.i12.symm, D.l1i2.symm⟩
theorem turn_zipM {P : Program} {w : World} {K : PySem.W.Frag} {elts : List Expr} {kk : Nat} {tpos : Pos} {a b z TI TO i1 i2 : Addr} (D : ZipApart z TI TO i1 i2 a b) : Turn P w K (.Tuple elts kk tpos) (ItzM K a b) [z, TI, TO, i1, i2] z (fun i h => ZpM h z TI TO i1 i2 a b i) := by
  have sp := ZpM.sep D
  refine ⟨List.mem_cons_self .., fun i h st => st.cells, fun i h h' st k => ?_, fun X hP hw hK hc i pins s σ H E I hf st hg => ?_, fun X hP hw hK hc i pins s σ H E I hf st hg => ?_, fun A i s Q E st h => wpAny_pyIter_zip st.zip h⟩
  · obtain ⟨x, y, e⟩ := st.to
    exact ⟨k z (by simp) _ st.zip, k TI (by simp) _ st.ti, ⟨x, y, k TO (by simp) _ e⟩, st.one.at fun o => k i1 (by simp) o, st.two.at fun o => k i2 (by simp) o⟩
  · subst hP hw hK
    obtain ⟨xs, ys, x, y, ⟨qx, ex⟩, qy, ey⟩ := hg
    obtain ⟨l1, rv1, p1, _⟩ := I.list qx
    obtain ⟨l2, rv2, p2, _⟩ := I.tuple qy
    obtain ⟨u1, eu1, ru1⟩ := rv1.get ex
    obtain ⟨u2, eu2, ru2⟩ := rv2.get ey
    obtain ⟨t1, t2, e3⟩ := st.to
    have hd : X.A.in1.handled = none := I.ok.hd hc
    have zl : z < s.heap.objs.size := Heap.lt_size st.zip
    have b1 : i < l1.toArray.size := by simpa using (List.getElem?_eq_some_iff.mp eu1).1
    have b2 : i < l2.toArray.size := by simpa using (List.getElem?_eq_some_iff.mp eu2).1
    refine wpAny_pyNext_zipD2_item sp (Draws.list hd i1 a D.l1i1 l1.toArray) (Draws.tuple hd i2 b D.l2i2 l2.toArray) st.zip st.ti e3 ⟨st.one, p1.isList⟩ ⟨st.two, p2⟩ b1 b2 fun v1 v2 h' tk y1 y2 z' to' s1 s2 hT hsz hk => ?_
    have ev1 : v1 = u1 := by
      have q : l1.toArray[i]? = some v1 := y1
      rw [List.getElem?_toArray, eu1] at q
      exact (Option.some.inj q).symm
    have ev2 : v2 = u2 := by
      have q : l2.toArray[i]? = some v2 := y2
      rw [List.getElem?_toArray, eu2] at q
      exact (Option.some.inj q).symm
    subst ev1 ev2
    refine ⟨_, rfl, wpAny_letOwnedTupleGo_zip (s := { s with heap := h', toks := tk }) z' fun g z'' sb => ?_⟩
    have nz : s.heap.objs.size ≠ z := Nat.ne_of_gt zl
    have lay : ObjOk X.prog X.w (upd H s.heap.objs.size (.tup [x, y])) g s.heap.objs.size (.tup [x, y]) := ⟨by show 2 ≤ sizeLine; decide, _, .cons ru1 (.cons ru2 .nil), ⟨_, (sb.2 _ nz).trans hT, rfl, _, rfl⟩⟩
    have far : ∀ c o, c ∉ [z, TI, TO, i1, i2] → s.heap.get? c = some o → g.get? c = some o := fun c o n e => by
      simp only [List.mem_cons, List.not_mem_nil, or_false, not_or] at n
      exact (sb.2 _ n.1).trans (hk c o n.1 n.2.2.1 n.2.2.2.1 n.2.2.2.2 e)
    have J : Inv X pins σ (upd H s.heap.objs.size (.tup [x, y])) { s with heap := g, toks := tk } := I.turnedNew (t' := tk) (ch := [z, TI, TO, i1, i2]) far hf (Nat.le_refl _) lay
    refine ⟨.ref s.heap.objs.size, _, J, rfl, ⟨_, x, y, ⟨rfl, I.hok.fresh (Nat.le_refl _), rfl⟩, fun l hl => (I.list_inj hl qx).symm ▸ ex, fun l hl => (I.tuple_inj hl qy).symm ▸ ey⟩, ⟨z'', ?_, ⟨_, _, (sb.2 _ D.TOz).trans to'⟩, s1.1.at fun o q => (sb.2 _ D.i1z).trans q, s2.1.at fun o q => (sb.2 _ D.i2z).trans q⟩, fun c hcm => ?_⟩
    · exact (sb.2 _ D.TIz).trans (hk _ _ D.TIz D.TITO D.TIi1 D.TIi2 st.ti)
    · obtain ⟨o, eo, _⟩ := st.cells c hcm
      rw [upd_ne (Nat.ne_of_lt (Heap.lt_size eo))]
      exact (hf c hcm).1
  · subst hP hw hK
    obtain ⟨xs, ys, ⟨qx, qy⟩, en, n1, n2⟩ := hg
    obtain ⟨l1, rv1, p1, _⟩ := I.list qx
    obtain ⟨l2, rv2, p2, _⟩ := I.tuple qy
    have e1 := rv1.length
    have e2 := rv2.length
    obtain ⟨t1, t2, e3⟩ := st.to
    have hd : X.A.in1.handled = none := I.ok.hd hc
    refine wpAny_pyNext_zipD2_end sp (Draws.list hd i1 a D.l1i1 l1.toArray) (Draws.tuple hd i2 b D.l2i2 l2.toArray) st.zip st.ti e3 ⟨st.one, p1.isList⟩ ⟨st.two, p2⟩ (by simp; omega) (by simp; omega) (by simp; omega) fun h' tk hk => ⟨rfl, I.turnedL (t' := tk) (ch := [z, TI, TO, i1, i2]) (fun c o n e => ?_) hf⟩
    simp only [List.mem_cons, List.not_mem_nil, or_false, not_or] at n
    exact hk c o n.1 n.2.2.1 n.2.2.2.1 n.2.2.2.2 e
def iZipM (K : PySem.W.Frag) (ta : TA) : TI := fun σ H R => ta σ H fun vs H1 => ∃ a b xs ys, vs = [.ref a, .ref b] ∧ SqL K H1 a xs ∧ SqT K H1 b ys ∧ R (ItzM K a b) H1
theorem pi_zipM {X : Cx} {e e2 : Expr} {ta : TA} {p pos tpos : Pos} {elts : List Expr} {kk : Nat} (hg : Gl X "zip") (hm : X.mg "zip" = none) (ha : PA X [e, e2] ta)
    (hs : starEach [e, e2] X.env = (false, eval e X.env) :: starEach [e2] X.env := by rfl) (hpl : (backTo pos (starEach [e2] X.env)).any (·.1) = false := by rfl) :
    PI X (.Tuple elts kk tpos) (.Call (.Name "zip" p) [e, e2] [] pos) (iZipM X.K ta) := by
  refine ⟨fun pins s σ H R I h => Call_ (ld_blt I hg hm PyProof.Rows.boot_zip (PyProof.Rows.callWith_type1 (thn (ha.run pos pins s σ H _ I h) fun us t ⟨vs, G, J, rv, q⟩ => ?_) hs hpl))⟩
  obtain ⟨a, b, xs, ys, rfl, qx, qy, q⟩ := q
  obtain ⟨u1, u2, rfl, r1, r2⟩ := vals2 rv
  cases r1
  cases r2
  obtain ⟨l1, _, p1, _⟩ := J.list qx
  obtain ⟨l2, _, p2, _⟩ := J.tuple qy
  obtain ⟨o2, e2', _⟩ := id p2
  refine zip_begins2 (begins_list a l1.toArray) (begins_tuple b l2.toArray) p1.isList p2 fun h' hz hTI hTO h1 h2 hsz hk => wpAny_pyIter_zip hz ?_
  refine ⟨_, [t.heap.objs.size + 4, t.heap.objs.size + 2, t.heap.objs.size + 3, t.heap.objs.size, t.heap.objs.size + 1], _, _, G, rfl, J.kept (t' := t.toks) hk, turn_zipM (PySem.W.ktu_apart t.heap.objs.size a b p1.lt (Heap.lt_size e2')), ⟨hz, hTI, ⟨_, _, hTO⟩, ⟨_, h1, rfl, rfl⟩, ⟨_, h2, rfl, rfl⟩⟩, fun c hc => ?_, q⟩
  have le : t.heap.objs.size ≤ c := by
    simp only [List.mem_cons, List.not_mem_nil, or_false] at hc
    rcases hc with rfl | rfl | rfl | rfl | rfl
    all_goals first | exact Nat.le_refl _ | exact Nat.le_add_right _ _
  exact J.fpOk le (J.hok.fresh le)
theorem walk_zipM {K : PySem.W.Frag} {a b : Addr} {xs ys : List V} (hl : xs.length = ys.length) : Walk (ItzM K a b) xs.length (fun H => SqL K H a xs ∧ SqT K H b ys) (YPair (fun i => xs[i]?) (fun i => ys[i]?)) := by
  refine ⟨fun i H hi q => ⟨xs, ys, xs[i], ys[i]'(by omega), ⟨q.1, by simp [hi]⟩, q.2, by simp [show i < ys.length by omega]⟩, fun H q => ⟨xs, ys, q, .inl rfl, Nat.le_refl _, Nat.le_of_eq hl⟩, fun i H v H' _ q y => ?_⟩
  obtain ⟨T, l, r, ⟨e1, e2, e3⟩, gl, gr⟩ := y
  exact ⟨T, l, r, e1, e2, e3, gl _ q.1, gr _ q.2⟩
end E1

namespace E1
open PySem PySem.Spec PyProof.Rows L2
/-! ### the numbers of a turn -/
instance : Inhabited FormP := ⟨⟨none, 0, .down, false⟩⟩
def frm (fs : List FormP) (k : Nat) : FormP := fs.getD k default
/-- lists grown one by one -/
def accL (g : List Int → Row → Int) (rows : List Row) : List Int := rows.foldl (fun a r => a ++ [g a r]) []
theorem accL_snoc (g : List Int → Row → Int) (rows : List Row) (r : Row) : accL g (rows ++ [r]) = accL g rows ++ [g (accL g rows) r] := by
  unfold accL
  rw [List.foldl_append]
  rfl
theorem accL_len (g : List Int → Row → Int) (rows : List Row) : (accL g rows).length = rows.length := by
  have key : ∀ (rows : List Row) (acc : List Int), (rows.foldl (fun a r => a ++ [g a r]) acc).length = acc.length + rows.length := by
    intro rows
    induction rows with
    | nil => exact fun acc => rfl
    | cons r rs ih =>
      intro acc
      rw [List.foldl_cons, ih]
      simp only [List.length_append, List.length_cons, List.length_nil]
      omega
  have := key rows []
  rw [List.length_nil, Nat.zero_add] at this
  exact this
theorem accL_pre (g : List Int → Row → Int) (a b : List Row) : ∃ t, accL g (a ++ b) = accL g a ++ t := by
  have key : ∀ (b : List Row) (acc : List Int), ∃ t, b.foldl (fun a r => a ++ [g a r]) acc = acc ++ t := by
    intro b
    induction b with
    | nil => exact fun acc => ⟨[], (List.append_nil _).symm⟩
    | cons r rs ih =>
      intro acc
      obtain ⟨t, e⟩ := ih (acc ++ [g acc r])
      exact ⟨[g acc r] ++ t, by rw [List.foldl_cons, e, List.append_assoc]⟩
  obtain ⟨t, e⟩ := key b (accL g a)
  refine ⟨t, ?_⟩
  rw [← e]
  unfold accL
  rw [List.foldl_append]
theorem accL_take (g : List Int → Row → Int) (rows : List Row) (i : Nat) : (accL g rows).take i = accL g (rows.take i) := by
  by_cases h : i ≤ rows.length
  · obtain ⟨t, e⟩ := accL_pre g (rows.take i) (rows.drop i)
    rw [List.take_append_drop] at e
    rw [e, List.take_append_of_le_length (by rw [accL_len, List.length_take]; omega), List.take_of_length_le (by rw [accL_len, List.length_take]; omega)]
  · rw [List.take_of_length_le (by rw [accL_len]; omega), List.take_of_length_le (by omega)]
theorem accL_next {g : List Int → Row → Int} {rows : List Row} {i : Nat} {r : Row} (h : rows[i]? = some r) : accL g (rows.take (i + 1)) = accL g (rows.take i) ++ [g (accL g (rows.take i)) r] := by
  rw [List.take_add_one, h, Option.toList_some, accL_snoc]
theorem accL_at {g : List Int → Row → Int} {rows : List Row} {i : Nat} {r : Row} (h : rows[i]? = some r) : (accL g rows)[i]? = some (g (accL g (rows.take i)) r) := by
  have hl := (List.getElem?_eq_some_iff.mp h).1
  have e := accL_take g rows (i + 1)
  rw [accL_next h] at e
  have e2 := congrArg (fun l => l[i]?) e
  simp only [List.getElem?_take] at e2
  rw [if_pos (Nat.lt_succ_self i)] at e2
  rw [e2, List.getElem?_append_right (by rw [accL_len, List.length_take]; omega), accL_len, List.length_take, Nat.min_eq_left (Nat.le_of_lt hl), Nat.sub_self]
  rfl
theorem ptsOf_acc (en : Int) (hp fp : List Int) (rows : List Row) : ptsOf en hp fp rows = accL (rowPt en hp fp) rows := rfl
/-- a row's number, from the numbers ahead and the points -/
def sumN (pts nums : List Int) (a b : Nat) (sg : Int) : Int :=
  let x := pts.getD a 0; let y := pts.getD b 0; let p := if y > x then y else x
  nums.getD a 0 * 2 ^ (p - x).toNat + sg * (nums.getD b 0 * 2 ^ (p - y).toNat)
def numRow (fs : List FormP) (pts : List Int) (x : Int) (st nums : List Int) : Row → Int
  | .inn => x
  | .old k => st.getD k 0
  | .times f _ a => f * nums.getD a 0
  | .plus a b => sumN pts nums a b 1
  | .less a b => sumN pts nums a b (-1)
  | .move _ a => nums.getD a 0
  | .keep f a => let F := frm fs f; wordF F.w F.st (stepsAt F.pt F.m (nums.getD a 0) (pts.getD a 0))
def NetP.nums (n : NetP) (x : Int) (st : List Int) : List Int := accL (numRow n.fs n.pts x st) n.rows
/-! ### sizes -/
def SzN (i : Nat) : Nat := 70 + 600 * i
theorem abs_mul_lt {x y : Int} {a b : Nat} (hx : x.natAbs < 2 ^ a) (hy : y.natAbs < 2 ^ b) : (x * y).natAbs < 2 ^ (a + b) := by
  rw [Int.natAbs_mul, Nat.pow_add]
  exact Nat.mul_lt_mul'' hx hy
theorem abs_add_lt {x y : Int} {a : Nat} (hx : x.natAbs < 2 ^ a) (hy : y.natAbs < 2 ^ a) : (x + y).natAbs < 2 ^ (a + 1) := by
  rw [Nat.pow_succ]
  generalize 2 ^ a = N at *
  omega
theorem div_abs (t b : Int) : (t / b).natAbs ≤ t.natAbs := Int.natAbs_ediv_le_natAbs _ _
theorem half_abs {t b : Int} (hb : 0 < b) : (fHalf t b).natAbs ≤ t.natAbs + 1 := by
  rw [fHalf_is hb]
  have := div_abs t b
  split <;> omega
theorem rnd_abs (m : Mn) {t b : Int} (hb : 0 < b) : (m.f t b).natAbs ≤ t.natAbs + 2 := by
  have h1 := div_abs t b
  have h2 := div_abs (-t) b
  have h3 := half_abs (t := t) hb
  have h4 := half_abs (t := -t) hb
  cases m with
  | down => show (fDown t b).natAbs ≤ _; unfold fDown; omega
  | up => show (fUp t b).natAbs ≤ _; unfold fUp; omega
  | inn => show (fIn t b).natAbs ≤ _; unfold fIn fDown fUp; split <;> omega
  | out => show (fOut t b).natAbs ≤ _; unfold fOut fDown fUp; split <;> omega
  | half => show (fHalf t b).natAbs ≤ _; omega
  | even => show (fEven t b).natAbs ≤ _; unfold fEven; split <;> omega
  | far => show (fFar t b).natAbs ≤ _; unfold fFar; split <;> omega
theorem steps_lt {pt p n : Int} {m : Mn} {a : Nat} (hn : n.natAbs < 2 ^ a) (h0 : -64 ≤ pt) (h1 : pt ≤ 64) (p0 : -200 ≤ p) (p1 : p ≤ 200) : (stepsAt pt m n p).natAbs < 2 ^ (a + 300) := by
  unfold stepsAt
  split
  · refine Nat.lt_of_lt_of_le (abs_mul_lt hn (two_pow_lt (k := (pt - p).toNat) (n := 299) (by omega))) (Nat.pow_le_pow_right (by decide) (by omega))
  · have := rnd_abs m (t := n) (two_pow_pos (p - pt).toNat)
    have e : 2 ^ (a + 300) = 2 ^ a * 2 ^ 300 := Nat.pow_add ..
    have one : 0 < 2 ^ a := Nat.pow_pos (by decide)
    have big : 4 ≤ 2 ^ 300 := by decide
    have : 2 ^ a * 4 ≤ 2 ^ a * 2 ^ 300 := Nat.mul_le_mul_left _ big
    omega
theorem two_lt64 {y : Int} (h0 : 2 ≤ y) (h1 : y ≤ 64) : (two y).natAbs ≤ 2 ^ 64 := by
  unfold two
  rw [Int.natAbs_pow]
  exact Nat.pow_le_pow_right (by decide) (by omega)
theorem word_abs (w : Option Int) (st : Bool) (n : Int) (hw : WOk w) : (wordF w st n).natAbs ≤ n.natAbs ∨ (wordF w st n).natAbs < 2 ^ 70 := by
  unfold wordF
  cases w with
  | none => exact .inl (Nat.le_refl _)
  | some y =>
    obtain ⟨y0, y1⟩ := hw y rfl
    have t1 : (two (y - 1)).natAbs ≤ 2 ^ 64 := by
      unfold two
      rw [Int.natAbs_pow]
      exact Nat.pow_le_pow_right (by decide) (by omega)
    have t2 := two_lt64 y0 y1
    have p1 := two_pos (y - 1)
    have p2 := two_pos y
    have b1 : (2 : Nat) ^ 70 = 2 ^ 64 * 64 := by decide
    have m0 := Int.emod_nonneg (n - lst y) (show two y ≠ 0 by omega)
    have m1 := Int.emod_lt_of_pos (n - lst y) p2
    by_cases h : inR (some y) n = true
    · left
      show (if inR (some y) n = true then n else if st = true then (if n < 0 then lst y else grt y) else (n - lst y) % two y + lst y).natAbs ≤ n.natAbs
      rw [if_pos h]
      exact Nat.le_refl _
    · right
      rw [b1]
      show (if inR (some y) n = true then n else if st = true then (if n < 0 then lst y else grt y) else (n - lst y) % two y + lst y).natAbs < _
      rw [if_neg h]
      unfold lst grt at *
      generalize (2 : Nat) ^ 64 = N at *
      generalize two (y - 1) = u at *
      generalize two y = v at *
      generalize (n - -u) % v = r at *
      split
      · split <;> omega
      · omega
structure NumSm (n : NetP) (x : Int) (st : List Int) : Prop where
  x : x.natAbs < 2 ^ 70
  st : ∀ k ∈ st, k.natAbs < 2 ^ 70
theorem getD_lt {l : List Int} {N i : Nat} (h : ∀ k ∈ l, k.natAbs < N) (hN : 0 < N) : (l.getD i 0).natAbs < N := by
  rw [List.getD_eq_getElem?_getD]
  cases e : l[i]? with
  | none => exact hN
  | some k => exact h k (List.mem_of_getElem? e)
theorem num_lt {n : NetP} (ok : NetOk n) {x : Int} {st : List Int} (ko : NumSm n x st) : ∀ i, i ≤ n.rows.length → ∀ k ∈ accL (numRow n.fs n.pts x st) (n.rows.take i), k.natAbs < 2 ^ SzN i := by
  intro i
  induction i with
  | zero => intro _ k hk; cases hk
  | succ i ih =>
    intro hi k hk
    obtain ⟨r, er⟩ : ∃ r, n.rows[i]? = some r := ⟨_, List.getElem?_eq_getElem (by omega)⟩
    rw [accL_next er] at hk
    have ih' := ih (by omega)
    have lp : 0 < 2 ^ SzN i := Nat.pow_pos (by decide)
    have wide : ∀ {y a : Nat}, y < 2 ^ a → a ≤ SzN (i + 1) → y < 2 ^ SzN (i + 1) := fun h l => up h l
    have sz : SzN (i + 1) = SzN i + 600 := rfl
    have s70 : 70 ≤ SzN i := Nat.le_add_right _ _
    rcases List.mem_append.mp hk with hk | hk
    · exact wide (ih' k hk) (by omega)
    rw [List.mem_singleton.mp hk]
    have at' : ∀ a, ((accL (numRow n.fs n.pts x st) (n.rows.take i)).getD a 0).natAbs < 2 ^ SzN i := fun a => getD_lt ih' lp
    have pp : ∀ a, -200 ≤ n.pts.getD a 0 ∧ n.pts.getD a 0 ≤ 200 := fun a => by
      rw [List.getD_eq_getElem?_getD]
      cases e : n.pts[a]? with
      | none => exact ⟨by decide, by decide⟩
      | some k => exact ok.po k (List.mem_of_getElem? e)
    have sums : ∀ a b sg, (sg = 1 ∨ sg = -1) → (sumN n.pts (accL (numRow n.fs n.pts x st) (n.rows.take i)) a b sg).natAbs < 2 ^ SzN (i + 1) := fun a b sg hs => by
      obtain ⟨a0, a1⟩ := pp a
      obtain ⟨b0, b1⟩ := pp b
      unfold sumN
      have k1 : ∀ c, ((if n.pts.getD b 0 > n.pts.getD a 0 then n.pts.getD b 0 else n.pts.getD a 0) - n.pts.getD c 0).toNat < 401 := fun c => by
        obtain ⟨c0, c1⟩ := pp c
        split <;> omega
      have x1 := abs_mul_lt (at' a) (two_pow_lt (k1 a))
      have x2 := abs_mul_lt (at' b) (two_pow_lt (k1 b))
      refine wide (abs_add_lt x1 ?_) (by omega)
      rcases hs with rfl | rfl
      · rw [Int.one_mul]
        exact x2
      · rw [Int.neg_mul, Int.one_mul, Int.natAbs_neg]
        exact x2
    have ro := ok.ro i r er
    match r, ro with
    | .inn, _ => exact wide ko.x (by omega)
    | .old k, _ => exact wide (getD_lt ko.st (by decide)) (by omega)
    | .times f m a, h => exact wide (abs_mul_lt (show f.natAbs < 2 ^ 63 from h.1) (at' a)) (by omega)
    | .plus a b, _ => exact sums a b 1 (.inl rfl)
    | .less a b, _ => exact sums a b (-1) (.inr rfl)
    | .move m a, _ => exact wide (at' a) (by omega)
    | .keep f a, h =>
      obtain ⟨p0, p1⟩ := pp a
      have fo : (frm n.fs f).Ok := by
        have e : frm n.fs f = n.fs[f]'h.1 := by
          unfold frm
          rw [List.getD_eq_getElem?_getD, List.getElem?_eq_getElem h.1]
          rfl
        rw [e]
        exact ok.fo _ (List.getElem_mem _)
      have s1 := steps_lt (m := (frm n.fs f).m) (at' a) fo.p0 fo.p1 p0 p1
      rcases word_abs (frm n.fs f).w (frm n.fs f).st (stepsAt (frm n.fs f).pt (frm n.fs f).m ((accL (numRow n.fs n.pts x st) (n.rows.take i)).getD a 0) (n.pts.getD a 0)) fo.wo with h | h
      · exact wide (Nat.lt_of_le_of_lt h s1) (by omega)
      · exact wide h (by omega)

/-- all numbers of a turn are of a size that can be reckoned with -/
def NumOk (n : NetP) (x : Int) (st : List Int) : Prop := ∀ k ∈ n.nums x st, k.natAbs < 2 ^ 900000
theorem NumOk.pre {n : NetP} {x : Int} {st : List Int} (h : NumOk n x st) {i : Nat} {k : Int} (hk : k ∈ accL (numRow n.fs n.pts x st) (n.rows.take i)) : k.natAbs < 2 ^ 900000 := by
  rw [← accL_take] at hk
  exact h k (List.mem_of_mem_take hk)
def Row.small : Row → Prop
  | .times f _ _ => f.natAbs ≤ 9
  | _ => True
/-- a net whose numbers grow slowly -/
structure Calm (n : NetP) : Prop where
  rs : ∀ r ∈ n.rows, r.small
  ps : ∀ p ∈ n.pts, -48 ≤ p ∧ p ≤ 48
  fs : ∀ f ∈ n.fs, -7 ≤ f.pt ∧ f.pt ≤ 7
  ln : n.rows.length ≤ 27
def Mild (n : NetP) : Prop := (∀ f ∈ n.fs, f.w ≠ none) ∨ Calm n
theorem steps_lt2 {pt p n : Int} {m : Mn} {a : Nat} (hn : n.natAbs < 2 ^ a) (h0 : -7 ≤ pt) (h1 : pt ≤ 7) (p0 : -48 ≤ p) (p1 : p ≤ 48) : (stepsAt pt m n p).natAbs < 2 ^ (a + 60) := by
  unfold stepsAt
  split
  · refine Nat.lt_of_lt_of_le (abs_mul_lt hn (two_pow_lt (k := (pt - p).toNat) (n := 59) (by omega))) (Nat.pow_le_pow_right (by decide) (by omega))
  · have := rnd_abs m (t := n) (two_pow_pos (p - pt).toNat)
    have e : 2 ^ (a + 60) = 2 ^ a * 2 ^ 60 := Nat.pow_add ..
    have one : 0 < 2 ^ a := Nat.pow_pos (by decide)
    have big : 4 ≤ 2 ^ 60 := by decide
    have : 2 ^ a * 4 ≤ 2 ^ a * 2 ^ 60 := Nat.mul_le_mul_left _ big
    omega
theorem num_calm {n : NetP} (ok : NetOk n) (cm : Calm n) {x : Int} {st : List Int} {s : Nat} (s70 : 70 ≤ s) (hx : x.natAbs < 2 ^ 70) (hst : ∀ k ∈ st, k.natAbs < 2 ^ s) : ∀ i, i ≤ n.rows.length → ∀ k ∈ accL (numRow n.fs n.pts x st) (n.rows.take i), k.natAbs < 2 ^ (s + 100 * i) := by
  intro i
  induction i with
  | zero => intro _ k hk; cases hk
  | succ i ih =>
    intro hi k hk
    obtain ⟨r, er⟩ : ∃ r, n.rows[i]? = some r := ⟨_, List.getElem?_eq_getElem (by omega)⟩
    rw [accL_next er] at hk
    have ih' := ih (by omega)
    have lp : 0 < 2 ^ (s + 100 * i) := Nat.pow_pos (by decide)
    have wide : ∀ {y a : Nat}, y < 2 ^ a → a ≤ s + 100 * (i + 1) → y < 2 ^ (s + 100 * (i + 1)) := fun h l => up h l
    rcases List.mem_append.mp hk with hk | hk
    · exact wide (ih' k hk) (by omega)
    rw [List.mem_singleton.mp hk]
    have at' : ∀ a, ((accL (numRow n.fs n.pts x st) (n.rows.take i)).getD a 0).natAbs < 2 ^ (s + 100 * i) := fun a => getD_lt ih' lp
    have pp : ∀ a, -48 ≤ n.pts.getD a 0 ∧ n.pts.getD a 0 ≤ 48 := fun a => by
      rw [List.getD_eq_getElem?_getD]
      cases e : n.pts[a]? with
      | none => exact ⟨by decide, by decide⟩
      | some k => exact cm.ps k (List.mem_of_getElem? e)
    have sums : ∀ a b sg, (sg = 1 ∨ sg = -1) → (sumN n.pts (accL (numRow n.fs n.pts x st) (n.rows.take i)) a b sg).natAbs < 2 ^ (s + 100 * (i + 1)) := fun a b sg hs => by
      obtain ⟨a0, a1⟩ := pp a
      obtain ⟨b0, b1⟩ := pp b
      unfold sumN
      have k1 : ∀ c, ((if n.pts.getD b 0 > n.pts.getD a 0 then n.pts.getD b 0 else n.pts.getD a 0) - n.pts.getD c 0).toNat < 97 := fun c => by
        obtain ⟨c0, c1⟩ := pp c
        split <;> omega
      have x1 := abs_mul_lt (at' a) (two_pow_lt (k1 a))
      have x2 := abs_mul_lt (at' b) (two_pow_lt (k1 b))
      refine wide (abs_add_lt x1 ?_) (by omega)
      rcases hs with rfl | rfl
      · rw [Int.one_mul]
        exact x2
      · rw [Int.neg_mul, Int.one_mul, Int.natAbs_neg]
        exact x2
    have ro := ok.ro i r er
    have rs := cm.rs r (List.mem_of_getElem? er)
    match r, ro, rs with
    | .inn, _, _ => exact wide hx (by omega)
    | .old k, _, _ => exact wide (getD_lt hst (Nat.pow_pos (by decide))) (by omega)
    | .times f m a, h, rs => exact wide (abs_mul_lt (show f.natAbs < 2 ^ 4 from Nat.lt_of_le_of_lt rs (by decide)) (at' a)) (by omega)
    | .plus a b, _, _ => exact sums a b 1 (.inl rfl)
    | .less a b, _, _ => exact sums a b (-1) (.inr rfl)
    | .move m a, _, _ => exact wide (at' a) (by omega)
    | .keep f a, h, _ =>
      obtain ⟨p0, p1⟩ := pp a
      have e : frm n.fs f = n.fs[f]'h.1 := by
        unfold frm
        rw [List.getD_eq_getElem?_getD, List.getElem?_eq_getElem h.1]
        rfl
      have fo : (frm n.fs f).Ok := by
        rw [e]
        exact ok.fo _ (List.getElem_mem _)
      have ff : -7 ≤ (frm n.fs f).pt ∧ (frm n.fs f).pt ≤ 7 := by
        rw [e]
        exact cm.fs _ (List.getElem_mem _)
      have s1 := steps_lt2 (m := (frm n.fs f).m) (at' a) ff.1 ff.2 p0 p1
      rcases word_abs (frm n.fs f).w (frm n.fs f).st (stepsAt (frm n.fs f).pt (frm n.fs f).m ((accL (numRow n.fs n.pts x st) (n.rows.take i)).getD a 0) (n.pts.getD a 0)) fo.wo with h | h
      · exact wide (Nat.lt_of_le_of_lt h s1) (by omega)
      · exact wide h (by omega)
theorem all_take {n : NetP} {x : Int} {st : List Int} {N : Nat} (h : ∀ k ∈ accL (numRow n.fs n.pts x st) (n.rows.take n.rows.length), k.natAbs < N) : ∀ k ∈ n.nums x st, k.natAbs < N := fun k hk => h k (by
  rw [List.take_length]
  exact hk)
end E1

namespace E1
open PySem PySem.Spec PyProof.Rows L2

def NIs (C CN : Addr) (H : Hp) (p : Addr) (n : NetP) : Prop := NetAt C CN H p n
/-- a method of a net that tells a new list -/
def spFormsM (C CN : Addr) : Sp := fun vs H Q _ => ∃ (p : Addr) (n : NetP), vs = [.ref p] ∧ NetAt C CN H p n ∧ ∀ l fv H', H l = none → Same H H' → H' l = some (.lst fv) → FsAt C H' fv n.fs → Q (.ref l) H'
def spRowsM (C CN : Addr) : Sp := fun vs H Q _ => ∃ (p : Addr) (n : NetP), vs = [.ref p] ∧ NetAt C CN H p n ∧ ∀ l rv H', H l = none → Same H H' → H' l = some (.lst rv) → TsAt H' rv (n.rows.map Row.vs) → Q (.ref l) H'
def spHoldsM (C CN : Addr) : Sp := fun vs H Q _ => ∃ (p : Addr) (n : NetP), vs = [.ref p] ∧ NetAt C CN H p n ∧ ∀ l hv H', H l = none → Same H H' → H' l = some (.lst hv) → TsAt H' hv (n.holds.map Hold.vs) → Q (.ref l) H'
def spPtsM (C CN : Addr) : Sp := fun vs H Q _ => ∃ (p : Addr) (n : NetP), vs = [.ref p] ∧ NetAt C CN H p n ∧ ∀ l H', H l = none → Same H H' → H' l = some (.lst (n.pts.map V.int)) → Q (.ref l) H'
def spEnM (C CN : Addr) : Sp := fun vs H Q _ => ∃ (p : Addr) (n : NetP), vs = [.ref p] ∧ NetAt C CN H p n ∧ Q (.int n.en) H
def spEnterForm (C CN : Addr) : Sp := fun vs H Q _ => ∃ (p : Addr) (n : NetP), vs = [.ref p] ∧ NetAt C CN H p n ∧ ∀ q H', Same H H' → FAt C H' q (frm n.fs n.en) → Q (.ref q) H'
def spSumNum : Sp := fun vs H Q _ => ∃ (ra na pa : Addr) (r : Row) (a b : Nat) (sg : Int) (nums pts : List Int), vs = [.ref ra, .ref na, .ref pa] ∧ H ra = some (.tup r.vs) ∧ ((r = .plus a b ∧ sg = 1) ∨ (r = .less a b ∧ sg = -1)) ∧ H na = some (.lst (nums.map V.int)) ∧ H pa = some (.lst (pts.map V.int)) ∧ a < nums.length ∧ b < nums.length ∧ nums.length ≤ pts.length ∧ (∀ k ∈ nums, k.natAbs < 2 ^ 900000) ∧ (∀ p ∈ pts, -200 ≤ p ∧ p ≤ 200) ∧ Q (.int (sumN pts nums a b sg)) H
def spNumRow (C : Addr) : Sp := fun vs H Q _ => ∃ (ra na fa pa : Addr) (r : Row) (fv : List V) (fs : List FormP) (hc : Nat) (x : Int) (st nums pts : List Int), vs = [.ref ra, .ref na, .ref fa, .ref pa] ∧ H ra = some (.tup r.vs) ∧ r.kd ≠ .inn ∧ r.kd ≠ .old ∧ H na = some (.lst (nums.map V.int)) ∧ H fa = some (.lst fv) ∧ FsAt C H fv fs ∧ H pa = some (.lst (pts.map V.int)) ∧ RowOk hc fs.length nums.length r ∧ nums.length ≤ pts.length ∧ (∀ k ∈ nums, k.natAbs < 2 ^ 900000) ∧ (∀ p ∈ pts, -200 ≤ p ∧ p ≤ 200) ∧
  ∀ H', Same H H' → Q (.int (numRow fs pts x st nums r)) H'
def spSwept (C CN fR : Addr) : Sp := fun vs H Q _ => ∃ (p sa : Addr) (n : NetP) (x : Int) (st : List Int), vs = [.ref p, .int x, .ref sa, .ref fR] ∧ NetAt C CN H p n ∧ H sa = some (.tup (st.map V.int)) ∧ st.length = n.holds.length ∧ NumOk n x st ∧ ∀ l H', H l = none → Same H H' → H' l = some (.lst ((n.nums x st).map V.int)) → Q (.ref l) H'
/-- a state of a net -/
structure StOk (n : NetP) (st : List Int) : Prop where
  len : st.length = n.holds.length
  inr : ∀ (i : Nat) (h : Hold) (k : Int), n.holds[i]? = some h → st[i]? = some k → inR (frm n.fs h.k).w k = true
def spIsState (C CN : Addr) : Sp := fun vs H Q _ => ∃ (p sa : Addr) (n : NetP) (st : List Int), vs = [.ref p, .ref sa] ∧ NetAt C CN H p n ∧ H sa = some (.tup (st.map V.int)) ∧ StOk n st ∧ ∀ H', Same H H' → Q (.bl true) H'
def spCkState (C CN : Addr) : Sp := fun vs H Q _ => ∃ (p sa : Addr) (n : NetP) (st : List Int), vs = [.ref p, .ref sa] ∧ NetAt C CN H p n ∧ H sa = some (.tup (st.map V.int)) ∧ StOk n st ∧ ∀ H', Same H H' → Q .non H'
def spCkWord (C CN : Addr) : Sp := fun vs H Q _ => ∃ (p : Addr) (n : NetP) (x : Int), vs = [.ref p, .int x] ∧ NetAt C CN H p n ∧ inR (frm n.fs n.en).w x = true ∧ ∀ H', Same H H' → Q .non H'
def NetP.behind (n : NetP) (nums : List Int) : List Int := n.holds.map fun h => nums.getD h.l 0
def spBehind (C CN : Addr) : Sp := fun vs H Q _ => ∃ (p na : Addr) (n : NetP) (nums : List Int), vs = [.ref p, .ref na] ∧ NetAt C CN H p n ∧ H na = some (.lst (nums.map V.int)) ∧ nums.length = n.rows.length ∧ ∀ t H', H t = none → Same H H' → H' t = some (.tup ((n.behind nums).map V.int)) → Q (.ref t) H'
/-- what a turn tells: a new tuple of a new list and a new tuple -/
def TurnOut (H : Hp) (Q : VK) (ns st' : List Int) : Prop := ∀ t l s H', Same H H' → H t = none → H l = none → H s = none → H' t = some (.tup [.ref l, .ref s]) → H' l = some (.lst (ns.map V.int)) → H' s = some (.tup (st'.map V.int)) → Q (.ref t) H'
def spTurnOf (C CN : Addr) : Sp := fun vs H Q _ => ∃ (p sa : Addr) (n : NetP) (x : Int) (st : List Int), vs = [.ref p, .ref sa, .int x] ∧ NetAt C CN H p n ∧ H sa = some (.tup (st.map V.int)) ∧ st.length = n.holds.length ∧ NumOk n x st ∧ TurnOut H Q (n.nums x st) (n.behind (n.nums x st))
def spTurned (C CN : Addr) : Sp := fun vs H Q _ => ∃ (p sa : Addr) (n : NetP) (x : Int) (st : List Int), vs = [.ref p, .ref sa, .int x] ∧ NetAt C CN H p n ∧ H sa = some (.tup (st.map V.int)) ∧ StOk n st ∧ inR (frm n.fs n.en).w x = true ∧ NumOk n x st ∧ TurnOut H Q (n.nums x st) (n.behind (n.nums x st))
section
variable {fl : Addr} {en : Int} {rl hl : Addr} {out : Int} {pl : Addr}
theorem fks_ne : ∀ i j : Fin 6, i ≠ j → ((fks[i.val]'i.isLt) == (fks[j.val]'j.isLt)) = false := by decide +kernel
theorem nl_f : (nflds fl en rl hl out pl).lookup ("form_list" : Str) = some (.ref fl) := by
  unfold nflds
  rw [List.lookup_cons, beq_self_eq_true]
theorem nl_e : (nflds fl en rl hl out pl).lookup ("enters_at" : Str) = some (.int en) := by
  unfold nflds
  rw [List.lookup_cons, show (("enters_at" : Str) == "form_list") = false from fks_ne 1 0 (by decide), List.lookup_cons, beq_self_eq_true]
theorem nl_r : (nflds fl en rl hl out pl).lookup ("row_list" : Str) = some (.ref rl) := by
  unfold nflds
  rw [List.lookup_cons, show (("row_list" : Str) == "form_list") = false from fks_ne 2 0 (by decide), List.lookup_cons, show (("row_list" : Str) == "enters_at") = false from fks_ne 2 1 (by decide), List.lookup_cons, beq_self_eq_true]
theorem nl_h : (nflds fl en rl hl out pl).lookup ("hold_list" : Str) = some (.ref hl) := by
  unfold nflds
  rw [List.lookup_cons, show (("hold_list" : Str) == "form_list") = false from fks_ne 3 0 (by decide), List.lookup_cons, show (("hold_list" : Str) == "enters_at") = false from fks_ne 3 1 (by decide), List.lookup_cons, show (("hold_list" : Str) == "row_list") = false from fks_ne 3 2 (by decide), List.lookup_cons, beq_self_eq_true]
theorem nl_o : (nflds fl en rl hl out pl).lookup ("out_at" : Str) = some (.int out) := by
  unfold nflds
  rw [List.lookup_cons, show (("out_at" : Str) == "form_list") = false from fks_ne 4 0 (by decide), List.lookup_cons, show (("out_at" : Str) == "enters_at") = false from fks_ne 4 1 (by decide), List.lookup_cons, show (("out_at" : Str) == "row_list") = false from fks_ne 4 2 (by decide), List.lookup_cons, show (("out_at" : Str) == "hold_list") = false from fks_ne 4 3 (by decide), List.lookup_cons, beq_self_eq_true]
theorem nl_p : (nflds fl en rl hl out pl).lookup ("point_list" : Str) = some (.ref pl) := by
  unfold nflds
  rw [List.lookup_cons, show (("point_list" : Str) == "form_list") = false from fks_ne 5 0 (by decide), List.lookup_cons, show (("point_list" : Str) == "enters_at") = false from fks_ne 5 1 (by decide), List.lookup_cons, show (("point_list" : Str) == "row_list") = false from fks_ne 5 2 (by decide), List.lookup_cons, show (("point_list" : Str) == "hold_list") = false from fks_ne 5 3 (by decide), List.lookup_cons, show (("point_list" : Str) == "out_at") = false from fks_ne 5 4 (by decide), List.lookup_cons, beq_self_eq_true]
theorem nl_no {x : Str} (h : (fks.map fun k => x == k) = [false, false, false, false, false, false]) : (nflds fl en rl hl out pl).lookup x = none := by
  have e : ∀ i : Nat, (fks.map fun k => x == k)[i]? = [false, false, false, false, false, false][i]? := fun i => by rw [h]
  have h0 : (x == ("form_list" : Str)) = false := Option.some.inj (e 0)
  have h1 : (x == ("enters_at" : Str)) = false := Option.some.inj (e 1)
  have h2 : (x == ("row_list" : Str)) = false := Option.some.inj (e 2)
  have h3 : (x == ("hold_list" : Str)) = false := Option.some.inj (e 3)
  have h4 : (x == ("out_at" : Str)) = false := Option.some.inj (e 4)
  have h5 : (x == ("point_list" : Str)) = false := Option.some.inj (e 5)
  unfold nflds
  rw [List.lookup_cons, h0, List.lookup_cons, h1, List.lookup_cons, h2, List.lookup_cons, h3, List.lookup_cons, h4, List.lookup_cons, h5]
  rfl
end
theorem pts_len (n : NetP) : n.pts.length = n.rows.length := ptsOf_len ..
theorem nums_len (n : NetP) (x : Int) (st : List Int) : (n.nums x st).length = n.rows.length := accL_len ..
theorem frm_at {fs : List FormP} {k : Nat} {f : FormP} (h : fs[k]? = some f) : frm fs k = f := by
  unfold frm
  rw [List.getD_eq_getElem?_getD, h]
  rfl
theorem FsAt.frm {C : Addr} {H : Hp} {vs : List V} {fs : List FormP} (h : FsAt C H vs fs) {k : Nat} (hk : k < fs.length) : ∃ p, vs[k]? = some (.ref p) ∧ FAt C H p (frm fs k) := by
  have e := List.getElem?_eq_getElem hk
  obtain ⟨p, a, b⟩ := h.at e
  exact ⟨p, a, by rw [frm_at e]; exact b⟩
theorem num_big {i : Nat} (h : i ≤ 60) {y : Nat} (l : y < 2 ^ SzN i) : y < 2 ^ 900000 := up l (by unfold SzN; omega)
theorem sumN_p (pts nums : List Int) (a b : Nat) : sumN pts nums a b 1 = nums.getD a 0 * 2 ^ ((if pts.getD b 0 > pts.getD a 0 then pts.getD b 0 else pts.getD a 0) - pts.getD a 0).toNat + nums.getD b 0 * 2 ^ ((if pts.getD b 0 > pts.getD a 0 then pts.getD b 0 else pts.getD a 0) - pts.getD b 0).toNat := by
  unfold sumN
  simp only [Int.one_mul]
theorem sumN_l (pts nums : List Int) (a b : Nat) : sumN pts nums a b (-1) = nums.getD a 0 * 2 ^ ((if pts.getD b 0 > pts.getD a 0 then pts.getD b 0 else pts.getD a 0) - pts.getD a 0).toNat - nums.getD b 0 * 2 ^ ((if pts.getD b 0 > pts.getD a 0 then pts.getD b 0 else pts.getD a 0) - pts.getD b 0).toNat := by
  unfold sumN
  simp only [Int.neg_mul, Int.one_mul, Int.sub_eq_add_neg]
theorem FsAt.butL {C a : Addr} {ys : List V} {H H' : Hp} {vs : List V} {fs : List FormP} (h : FsAt C H vs fs) (s : SameBut a H H') (ha : H a = some (.lst ys)) : FsAt C H' vs fs := by
  induction h with
  | nil => exact .nil
  | cons e _ ih =>
    obtain ⟨d, ho⟩ := e.ob
    exact .cons ⟨⟨d, s _ _ (ne_of ho ha (fun z => nomatch z)) ho⟩, e.wo, e.p0, e.p1⟩ ih
theorem kd_ne (a b : Kd7) (h : a ≠ b) : a.s ≠ b.s := by
  revert h
  cases a <;> cases b <;> first | (intro h; exact absurd rfl h) | (intro _; decide +kernel)
theorem kd_s {a b : Kd7} : decide (V.str a.s = V.str b.s) = decide (a.s = b.s) := by
  by_cases h : a.s = b.s
  · rw [h, decide_eq_true rfl, decide_eq_true rfl]
  · rw [decide_eq_false h, decide_eq_false (fun z => h (V.str.inj z))]
section
variable {P : Program} {w : World} {K : PySem.W.Frag} {mg : Str → Option Value} {base : Heap}
theorem sc_Net_forms : FnScope ["self"] ["self"] (defScope s_Net_forms) := ⟨rfl, rfl, rfl, by decide +kernel, rfl, by decide +kernel, by decide +kernel⟩
theorem ok_Net_forms {f : Addr} {fd : FuncData} {k : Nat} {C CN : Addr} (TN : NTxt K mg CN) (F : Fun K "forms" "Net.forms" s_Net_forms f fd) (z : Zs mg) : FnOk P w K mg base CX0 (k + 1) f fd ["self"] (spFormsM C CN) := by
  refine F.ok sc_Net_forms (fun vs H Q E h => ?_) (fun cdv A outer s H vs Q E hr h => ?_)
  · obtain ⟨p, n, rfl, _⟩ := h
    rfl
  · obtain ⟨p, n, rfl, ⟨ok, dx, fl, rl, hl2, pl, fv, rv, hv, b⟩, q⟩ := h
    refine ⟨_, (pss_one (ps_ret (pe_callTy call_list_of (by rfl) z.list (by decide +kernel) (pa_cons (pe_fld (pv 0) rfl) pa_nil)))), ?_⟩
    refine ⟨_, rfl, p, CN, dx, _, _, rfl, b.ob, TN.cl, TN.n_form_list, nl_f, _, _, rfl, .inl (SqL.of b.fa), fun l hl => ?_⟩
    generalize hG : upd _ l _ = G
    obtain ⟨s, h_l⟩ := upd_gen hG hl
    exact q l _ _ hl s h_l (b.fs.same s)
theorem sc_Net_rows : FnScope ["self"] ["self"] (defScope s_Net_rows) := ⟨rfl, rfl, rfl, by decide +kernel, rfl, by decide +kernel, by decide +kernel⟩
theorem ok_Net_rows {f : Addr} {fd : FuncData} {k : Nat} {C CN : Addr} (TN : NTxt K mg CN) (F : Fun K "rows" "Net.rows" s_Net_rows f fd) (z : Zs mg) : FnOk P w K mg base CX0 (k + 1) f fd ["self"] (spRowsM C CN) := by
  refine F.ok sc_Net_rows (fun vs H Q E h => ?_) (fun cdv A outer s H vs Q E hr h => ?_)
  · obtain ⟨p, n, rfl, _⟩ := h
    rfl
  · obtain ⟨p, n, rfl, ⟨ok, dx, fl, rl, hl2, pl, fv, rv, hv, b⟩, q⟩ := h
    refine ⟨_, (pss_one (ps_ret (pe_callTy call_list_of (by rfl) z.list (by decide +kernel) (pa_cons (pe_fld (pv 0) rfl) pa_nil)))), ?_⟩
    refine ⟨_, rfl, p, CN, dx, _, _, rfl, b.ob, TN.cl, TN.n_row_list, nl_r, _, _, rfl, .inl (SqL.of b.ra), fun l hl => ?_⟩
    generalize hG : upd _ l _ = G
    obtain ⟨s, h_l⟩ := upd_gen hG hl
    exact q l _ _ hl s h_l (b.rs.same s)
theorem sc_Net_holds : FnScope ["self"] ["self"] (defScope s_Net_holds) := ⟨rfl, rfl, rfl, by decide +kernel, rfl, by decide +kernel, by decide +kernel⟩
theorem ok_Net_holds {f : Addr} {fd : FuncData} {k : Nat} {C CN : Addr} (TN : NTxt K mg CN) (F : Fun K "holds" "Net.holds" s_Net_holds f fd) (z : Zs mg) : FnOk P w K mg base CX0 (k + 1) f fd ["self"] (spHoldsM C CN) := by
  refine F.ok sc_Net_holds (fun vs H Q E h => ?_) (fun cdv A outer s H vs Q E hr h => ?_)
  · obtain ⟨p, n, rfl, _⟩ := h
    rfl
  · obtain ⟨p, n, rfl, ⟨ok, dx, fl, rl, hl2, pl, fv, rv, hv, b⟩, q⟩ := h
    refine ⟨_, (pss_one (ps_ret (pe_callTy call_list_of (by rfl) z.list (by decide +kernel) (pa_cons (pe_fld (pv 0) rfl) pa_nil)))), ?_⟩
    refine ⟨_, rfl, p, CN, dx, _, _, rfl, b.ob, TN.cl, TN.n_hold_list, nl_h, _, _, rfl, .inl (SqL.of b.ha), fun l hl => ?_⟩
    generalize hG : upd _ l _ = G
    obtain ⟨s, h_l⟩ := upd_gen hG hl
    exact q l _ _ hl s h_l (b.hs.same s)
theorem sc_Net_points : FnScope ["self"] ["self"] (defScope s_Net_points) := ⟨rfl, rfl, rfl, by decide +kernel, rfl, by decide +kernel, by decide +kernel⟩
theorem ok_Net_points {f : Addr} {fd : FuncData} {k : Nat} {C CN : Addr} (TN : NTxt K mg CN) (F : Fun K "points" "Net.points" s_Net_points f fd) (z : Zs mg) : FnOk P w K mg base CX0 (k + 1) f fd ["self"] (spPtsM C CN) := by
  refine F.ok sc_Net_points (fun vs H Q E h => ?_) (fun cdv A outer s H vs Q E hr h => ?_)
  · obtain ⟨p, n, rfl, _⟩ := h
    rfl
  · obtain ⟨p, n, rfl, ⟨ok, dx, fl, rl, hl2, pl, fv, rv, hv, b⟩, q⟩ := h
    refine ⟨_, (pss_one (ps_ret (pe_callTy call_list_of (by rfl) z.list (by decide +kernel) (pa_cons (pe_fld (pv 0) rfl) pa_nil)))), ?_⟩
    refine ⟨_, rfl, p, CN, dx, _, _, rfl, b.ob, TN.cl, TN.n_point_list, nl_p, _, _, rfl, .inl (SqL.of b.pa), fun l hl => ?_⟩
    generalize hG : upd _ l _ = G
    obtain ⟨s, h_l⟩ := upd_gen hG hl
    exact q l _ hl s h_l
theorem sc_Net_enters : FnScope ["self"] ["self"] (defScope s_Net_enters) := ⟨rfl, rfl, rfl, by decide +kernel, rfl, by decide +kernel, by decide +kernel⟩
theorem ok_Net_enters {f : Addr} {fd : FuncData} {k : Nat} {C CN : Addr} (TN : NTxt K mg CN) (F : Fun K "enters" "Net.enters" s_Net_enters f fd) : FnOk P w K mg base CX0 (k + 1) f fd ["self"] (spEnM C CN) := by
  refine F.ok sc_Net_enters (fun vs H Q E h => ?_) (fun cdv A outer s H vs Q E hr h => ?_)
  · obtain ⟨p, n, rfl, _⟩ := h
    rfl
  · obtain ⟨p, n, rfl, ⟨ok, dx, fl, rl, hl2, pl, fv, rv, hv, b⟩, q⟩ := h
    refine ⟨_, (pss_one (ps_ret (pe_fld (pv 0) rfl))), ?_⟩
    exact ⟨_, rfl, p, CN, dx, _, _, rfl, b.ob, TN.cl, TN.n_enters_at, nl_e, q⟩
end
end E1

namespace E1
open PySem PySem.Spec PyProof.Rows L2
section
variable {P : Program} {w : World} {K : PySem.W.Frag} {mg : Str → Option Value} {base : Heap}
theorem sc_enter_form : FnScope ["net"] ["net"] (defScope s_enter_form) := ⟨rfl, rfl, rfl, by decide +kernel, rfl, by decide +kernel, by decide +kernel⟩
theorem ok_enter_form {f : Addr} {fd : FuncData} {C CN : Addr} (TN : NTxt K mg CN) (F : Fun K "enter_form" "enter_form" s_enter_form f fd) (n_forms : CalM P w K mg base 1 CN "forms" ["self"] (spFormsM C CN)) (n_enters : CalM P w K mg base 1 CN "enters" ["self"] (spEnM C CN)) : FnOk P w K mg base CX0 2 f fd ["net"] (spEnterForm C CN) := by
  refine F.ok sc_enter_form (fun vs H Q E h => ?_) (fun cdv A outer s H vs Q E hr h => ?_)
  · obtain ⟨p, n, rfl, _⟩ := h
    rfl
  · obtain ⟨p, n, rfl, hn, q⟩ := h
    refine ⟨_, (pss_one (ps_ret (pe_ix ix_list (pe_calm0 (pv 0) TN.cl n_forms hr) (pe_calm0 (pv 0) TN.cl n_enters hr) (fun _ _ => rfl)))), ?_⟩
    obtain ⟨ok, dx, fl, rl, hl, pl, fv, rv, hv, b⟩ := id hn
    refine ⟨_, rfl, p, dx, _, rfl, b.ob, nl_no (by decide +kernel), p, n, rfl, hn, fun l fv2 H1 hl1 s1 h_l hf => ?_⟩
    obtain ⟨q1, e1, f1⟩ := hf.frm ok.en
    refine ⟨_, rfl, p, dx, _, rfl, s1 _ _ b.ob, nl_no (by decide +kernel), p, n, rfl, hn.same s1, ?_⟩
    exact ⟨l, _, _, .ref q1, rfl, rfl, SqL.of h_l, atI_nat e1, q q1 _ s1 f1⟩
theorem sc_sum_number : FnScope ["row", "numbers", "points", "word", "one", "other", "point", "left", "right"] ["row", "numbers", "points"] (defScope s_sum_number) := ⟨rfl, rfl, rfl, by decide +kernel, rfl, by decide +kernel, by decide +kernel⟩
theorem ok_sum_number {f : Addr} {fd : FuncData} {k : Nat} (F : Fun K "sum_number" "sum_number" s_sum_number f fd) (z : Zs mg) : FnOk P w K mg base CX0 (k + 1) f fd ["row", "numbers", "points"] spSumNum := by
  refine F.ok sc_sum_number (fun vs H Q E h => ?_) (fun cdv A outer s H vs Q E hr h => ?_)
  · obtain ⟨ra, na, pa, r, a, b, sg, nums, pts, rfl, _⟩ := h
    rfl
  · obtain ⟨ra, na, pa, r, a, b, sg, nums, pts, rfl, hra, hr2, hna, hpa, la, lb, lp, hn, hp, q⟩ := h
    refine ⟨_, (pss_cons (ps_asg (pv 0) (pg_tup (by rfl) (pgs_cons (pg_name (i := 3) sc_sum_number.nd rfl (.inl rfl)) (pgs_cons (pg_name (i := 4) sc_sum_number.nd rfl (.inl rfl)) (pgs_cons (pg_name (i := 5) sc_sum_number.nd rfl (.inl rfl)) pgs_nil)))))
      (pss_cons (ps_set (i := 6) sc_sum_number.nd rfl (.inl rfl) (pe_callB (call_max2 rfl) (by rfl) z.max (by decide +kernel) (pa_cons (pe_ix ix_list (pv 2) (pv 4) (fun _ _ => rfl)) (pa_cons (pe_ix ix_list (pv 2) (pv 5) (fun _ _ => rfl)) pa_nil))))
      (pss_cons (ps_set (i := 7) sc_sum_number.nd rfl (.inl rfl) (pe_op op_shlW (pe_ix ix_list (pv 1) (pv 4) (fun _ _ => rfl)) (pe_op op_sub (pv 6) (pe_ix ix_list (pv 2) (pv 4) (fun _ _ => rfl)))))
      (pss_cons (ps_set (i := 8) sc_sum_number.nd rfl (.inl rfl) (pe_op op_shlW (pe_ix ix_list (pv 1) (pv 5) (fun _ _ => rfl)) (pe_op op_sub (pv 6) (pe_ix ix_list (pv 2) (pv 5) (fun _ _ => rfl)))))
      (pss_one (ps_ret (pe_ifExp (pt_cmpR op_eq (pv 3) pe_str (nomark _)) (pe_op op_add (pv 7) (pv 8)) (pe_op op_sub (pv 7) (pv 8))))))))), ?_⟩
    have la' : a < pts.length := by omega
    have lb' : b < pts.length := by omega
    have pp : ∀ c, c < pts.length → -200 ≤ pts.getD c 0 ∧ pts.getD c 0 ≤ 200 := fun c hc => hp _ (by
      rw [List.getD_eq_getElem?_getD, List.getElem?_eq_getElem hc]
      exact List.getElem_mem _)
    obtain ⟨a0, a1⟩ := pp a la'
    obtain ⟨b0, b1⟩ := pp b lb'
    have nn : ∀ c, (nums.getD c 0).natAbs < 2 ^ 900000 := fun c => getD_lt hn (Nat.pow_pos (by decide))
    have sh : ∀ c, c < pts.length → CShl (nums.getD c 0) ((if pts.getD b 0 > pts.getD a 0 then pts.getD b 0 else pts.getD a 0) - pts.getD c 0) ∨ ¬ (c = a ∨ c = b) := fun c hc => by
      by_cases hh : c = a ∨ c = b
      · left
        have e : ((if pts.getD b 0 > pts.getD a 0 then pts.getD b 0 else pts.getD a 0) - pts.getD c 0) = ((((if pts.getD b 0 > pts.getD a 0 then pts.getD b 0 else pts.getD a 0) - pts.getD c 0).toNat : Nat) : Int) := by
          rcases hh with rfl | rfl <;> split <;> omega
        rw [e]
        refine shl_ok (nn c) ?_
        rcases hh with rfl | rfl <;> split <;> omega
      · exact .inr hh
    have sa := (sh a la').resolve_right (fun z => z (.inl rfl))
    have sb := (sh b lb').resolve_right (fun z => z (.inr rfl))
    rcases hr2 with ⟨rfl, rfl⟩ | ⟨rfl, rfl⟩
    · refine ⟨_, rfl, ra, _, rfl, SqT.of hra, rfl, _, _, rfl, _, _, rfl, _, _, rfl, rfl, _, rfl, _, rfl, pa, _, _, _, rfl, rfl, SqL.of hpa, ints_at la', _, rfl, _, rfl, pa, _, _, _, rfl, rfl, SqL.of hpa, ints_at lb', _, _, rfl, _, rfl, _, rfl, na, _, _, _, rfl, rfl, SqL.of hna, ints_at la, _, rfl, _, rfl, _, rfl, pa, _, _, _, rfl, rfl, SqL.of hpa, ints_at la', _, _, rfl, rfl, _, _, rfl, rfl, sa, _, rfl, _, rfl, na, _, _, _, rfl, rfl, SqL.of hna, ints_at lb, _, rfl, _, rfl, _, rfl, pa, _, _, _, rfl, rfl, SqL.of hpa, ints_at lb', _, _, rfl, rfl, _, _, rfl, rfl, sb, _, rfl, rfl, _, rfl, ?_⟩
      refine iteC (d := true) (decide_eq_true rfl) (iteT ⟨_, rfl, _, rfl, _, _, rfl, rfl, ?_⟩)
      rw [sumN_p] at q
      exact q
    · refine ⟨_, rfl, ra, _, rfl, SqT.of hra, rfl, _, _, rfl, _, _, rfl, _, _, rfl, rfl, _, rfl, _, rfl, pa, _, _, _, rfl, rfl, SqL.of hpa, ints_at la', _, rfl, _, rfl, pa, _, _, _, rfl, rfl, SqL.of hpa, ints_at lb', _, _, rfl, _, rfl, _, rfl, na, _, _, _, rfl, rfl, SqL.of hna, ints_at la, _, rfl, _, rfl, _, rfl, pa, _, _, _, rfl, rfl, SqL.of hpa, ints_at la', _, _, rfl, rfl, _, _, rfl, rfl, sa, _, rfl, _, rfl, na, _, _, _, rfl, rfl, SqL.of hna, ints_at lb, _, rfl, _, rfl, _, rfl, pa, _, _, _, rfl, rfl, SqL.of hpa, ints_at lb', _, _, rfl, rfl, _, _, rfl, rfl, sb, _, rfl, rfl, _, rfl, ?_⟩
      refine iteC (d := false) (decide_eq_false (fun z => absurd (V.str.inj z) (by decide +kernel))) (iteF ⟨_, rfl, _, rfl, _, _, rfl, rfl, ?_⟩)
      rw [sumN_l] at q
      exact q
theorem sc_number_of_row : FnScope ["row", "numbers", "forms", "points", "kind"] ["row", "numbers", "forms", "points"] (defScope s_number_of_row) := ⟨rfl, rfl, rfl, by decide +kernel, rfl, by decide +kernel, by decide +kernel⟩
theorem ok_number_of_row {f : Addr} {fd : FuncData} {C : Addr} (T : FTxt K mg C) (F : Fun K "number_of_row" "number_of_row" s_number_of_row f fd) (m_kept_at : CalM P w K mg base 5 C "kept_at" ["self", "number", "point"] (spKeptAt C)) (c_sum_number : Cal P w K mg base 1 "sum_number" ["row", "numbers", "points"] spSumNum) : FnOk P w K mg base CX0 6 f fd ["row", "numbers", "forms", "points"] (spNumRow C) := by
  refine F.ok sc_number_of_row (fun vs H Q E h => ?_) (fun cdv A outer s H vs Q E hr h => ?_)
  · obtain ⟨ra, na, fa, pa, r, fv, fs, hc, x, st, nums, pts, rfl, _⟩ := h
    rfl
  · obtain ⟨ra, na, fa, pa, r, fv, fs, hc, x, st, nums, pts, rfl, hra, ki, ko, hna, hfa, hf, hpa, hok, lp, hn, hp, q⟩ := h
    refine ⟨_, (pss_cons (ps_set (i := 4) sc_number_of_row.nd rfl (.inl rfl) (pe_ix ix_tup (pv 0) pe_int (fun _ _ => rfl)))
      (pss_cons (ps_if (pt_cmpR op_eq (pv 4) pe_str (nomark _)) (pss_one (ps_ret (pe_op op_mul (pe_ix ix_tup (pv 0) pe_int (fun _ _ => rfl)) (pe_ix ix_list (pv 1) (pe_ix ix_tup (pv 0) pe_int (fun _ _ => rfl)) (fun _ _ => rfl))))) pss_nil)
      (pss_cons (ps_if (pt_cmpR op_eq (pv 4) pe_str (nomark _)) (pss_one (ps_ret (pe_ix ix_list (pv 1) (pe_ix ix_tup (pv 0) pe_int (fun _ _ => rfl)) (fun _ _ => rfl)))) pss_nil)
      (pss_cons (ps_if (pt_cmpR op_eq (pv 4) pe_str (nomark _)) (pss_one (ps_ret (pe_ix ix_tup (pe_calm (pe_ix ix_list (pv 2) (pe_ix ix_tup (pv 0) pe_int (fun _ _ => rfl)) (fun _ _ => rfl)) T.cl m_kept_at hr (pa_cons (pe_ix ix_list (pv 1) (pe_ix ix_tup (pv 0) pe_int (fun _ _ => rfl)) (fun _ _ => rfl)) (pa_cons (pe_ix ix_list (pv 3) (pe_ix ix_tup (pv 0) pe_int (fun _ _ => rfl)) (fun _ _ => rfl)) pa_nil))) pe_int (fun _ _ => rfl)))) pss_nil)
      (pss_one (ps_ret (pe_cal c_sum_number hr (pa_cons (pv 0) (pa_cons (pv 1) (pa_cons (pv 3) pa_nil)))))))))), ?_⟩
    have nn : ∀ c, (nums.getD c 0).natAbs < 2 ^ 900000 := fun c => getD_lt hn (Nat.pow_pos (by decide))
    match r, ki, ko, hok, hra, q with
    | .inn, ki, _, _, _, _ => exact absurd rfl ki
    | .old _, _, ko, _, _, _ => exact absurd rfl ko
    | .times f m a, _, _, hok, hra, q =>
      obtain ⟨h1, h2, h3⟩ := hok
      refine ⟨_, rfl, ra, _, 0, .str _, rfl, rfl, SqT.of hra, a0, _, rfl, rfl, _, rfl, iteC (d := true) (decide_eq_true rfl) (iteT ?_)⟩
      exact ⟨_, rfl, ra, _, 1, .int f, rfl, rfl, SqT.of hra, a1, _, rfl, _, rfl, ra, _, 3, .int a, rfl, rfl, SqT.of hra, atI_nat (j := 3) rfl, na, _, _, _, rfl, rfl, SqL.of hna, ints_at h3, _, _, rfl, rfl, .inl ⟨by omega, by omega⟩, q _ (Same.refl _)⟩
    | .move m a, _, _, hok, hra, q =>
      obtain ⟨h1, h2⟩ := hok
      refine ⟨_, rfl, ra, _, 0, .str _, rfl, rfl, SqT.of hra, a0, _, rfl, rfl, _, rfl, iteC (d := false) (decide_eq_false (fun z => absurd (V.str.inj z) (by decide +kernel))) (iteF ⟨_, rfl, rfl, _, rfl, iteC (d := true) (decide_eq_true rfl) (iteT ?_)⟩)⟩
      exact ⟨_, rfl, _, rfl, ra, _, 2, .int a, rfl, rfl, SqT.of hra, a2, na, _, _, _, rfl, rfl, SqL.of hna, ints_at h2, q _ (Same.refl _)⟩
    | .keep f a, _, _, hok, hra, q =>
      obtain ⟨h1, h2⟩ := hok
      obtain ⟨p, ep, fp⟩ := hf.frm h1
      obtain ⟨dx, ho⟩ := fp.ob
      have h3 : a < pts.length := by omega
      obtain ⟨p0, p1⟩ := hp (pts.getD a 0) (by
        rw [List.getD_eq_getElem?_getD, List.getElem?_eq_getElem h3]
        exact List.getElem_mem _)
      refine ⟨_, rfl, ra, _, 0, .str _, rfl, rfl, SqT.of hra, a0, _, rfl, rfl, _, rfl, iteC (d := false) (decide_eq_false (fun z => absurd (V.str.inj z) (by decide +kernel))) (iteF ⟨_, rfl, rfl, _, rfl, iteC (d := false) (decide_eq_false (fun z => absurd (V.str.inj z) (by decide +kernel))) (iteF ⟨_, rfl, rfl, _, rfl, iteC (d := true) (decide_eq_true rfl) (iteT ?_)⟩)⟩)⟩
      refine ⟨_, rfl, _, rfl, ra, _, 1, .int f, rfl, rfl, SqT.of hra, a1, fa, _, _, .ref p, rfl, rfl, SqL.of hfa, atI_nat ep, p, dx, _, rfl, ho, fl_no (by decide +kernel), _, rfl, _, rfl, ra, _, 2, .int a, rfl, rfl, SqT.of hra, a2, na, _, _, _, rfl, rfl, SqL.of hna, ints_at h2, _, rfl, _, rfl, ra, _, 2, .int a, rfl, rfl, SqT.of hra, a2, pa, _, _, _, rfl, rfl, SqL.of hpa, ints_at h3, p, _, _, _, _, _, _, rfl, fp, p0, p1, nn a, fun t H' ht s h_t => ?_⟩
      exact ⟨t, _, 0, _, rfl, rfl, SqT.of h_t, a0, q _ s⟩
    | .plus a b, _, _, hok, hra, q =>
      obtain ⟨h1, h2⟩ := hok
      refine ⟨_, rfl, ra, _, 0, .str _, rfl, rfl, SqT.of hra, a0, _, rfl, rfl, _, rfl, iteC (d := false) (decide_eq_false (fun z => absurd (V.str.inj z) (by decide +kernel))) (iteF ⟨_, rfl, rfl, _, rfl, iteC (d := false) (decide_eq_false (fun z => absurd (V.str.inj z) (by decide +kernel))) (iteF ⟨_, rfl, rfl, _, rfl, iteC (d := false) (decide_eq_false (fun z => absurd (V.str.inj z) (by decide +kernel))) (iteF ?_)⟩)⟩)⟩
      exact ⟨_, rfl, _, rfl, _, rfl, ra, na, pa, .plus a b, a, b, 1, nums, pts, rfl, hra, .inl ⟨rfl, rfl⟩, hna, hpa, h1, h2, lp, hn, hp, q _ (Same.refl _)⟩
    | .less a b, _, _, hok, hra, q =>
      obtain ⟨h1, h2⟩ := hok
      refine ⟨_, rfl, ra, _, 0, .str _, rfl, rfl, SqT.of hra, a0, _, rfl, rfl, _, rfl, iteC (d := false) (decide_eq_false (fun z => absurd (V.str.inj z) (by decide +kernel))) (iteF ⟨_, rfl, rfl, _, rfl, iteC (d := false) (decide_eq_false (fun z => absurd (V.str.inj z) (by decide +kernel))) (iteF ⟨_, rfl, rfl, _, rfl, iteC (d := false) (decide_eq_false (fun z => absurd (V.str.inj z) (by decide +kernel))) (iteF ?_)⟩)⟩)⟩
      exact ⟨_, rfl, _, rfl, _, rfl, ra, na, pa, .less a b, a, b, (-1), nums, pts, rfl, hra, .inr ⟨rfl, rfl⟩, hna, hpa, h1, h2, lp, hn, hp, q _ (Same.refl _)⟩
theorem sc_swept : FnScope ["net", "heard", "held", "rule", "forms", "points", "done", "row"] ["net", "heard", "held", "rule"] (defScope s_swept) := ⟨rfl, rfl, rfl, by decide +kernel, rfl, by decide +kernel, by decide +kernel⟩
theorem ok_swept {f : Addr} {fd : FuncData} {C CN fR : Addr} {fdR : FuncData} (okR : FnOk P w K mg base CX0 6 fR fdR ["row", "numbers", "forms", "points"] (spNumRow C)) (kR : PySem.W.keepIn K (.ref fR) = true) (bR : Binds K fdR ["row", "numbers", "forms", "points"] []) (TN : NTxt K mg CN) (F : Fun K "swept" "swept" s_swept f fd) (n_forms : CalM P w K mg base 1 CN "forms" ["self"] (spFormsM C CN)) (n_points : CalM P w K mg base 1 CN "points" ["self"] (spPtsM C CN)) (n_rows : CalM P w K mg base 1 CN "rows" ["self"] (spRowsM C CN)) : FnOk P w K mg base CX0 7 f fd ["net", "heard", "held", "rule"] (spSwept C CN fR) := by
  refine F.ok sc_swept (fun vs H Q E h => ?_) (fun cdv A outer s H vs Q E hr h => ?_)
  · obtain ⟨p, sa, n, x, st, rfl, _⟩ := h
    rfl
  · obtain ⟨p, sa, n, x, st, rfl, hn, hsa, hls, ko, q⟩ := h
    refine ⟨_, (pss_cons (ps_set (i := 4) sc_swept.nd rfl (.inl rfl) (pe_calm0 (pv 0) TN.cl n_forms hr))
      (pss_cons (ps_set (i := 5) sc_swept.nd rfl (.inl rfl) (pe_calm0 (pv 0) TN.cl n_points hr))
      (pss_cons (ps_set (i := 6) sc_swept.nd rfl (.inl rfl) (pe_lst pa_nil))
      (pss_cons (ps_for PassesOwn.never rfl (pi_list (pe_calm0 (pv 0) TN.cl n_rows hr)) (pg_name (i := 7) sc_swept.nd rfl (.inl rfl)) (pss_one (ps_if (pt_cmpR op_eq (pe_ix ix_tup (pv 7) pe_int (fun _ _ => rfl)) pe_str (nomark _)) (pss_one (ps_expr (pe_bm PySem.F.plainAttrs_list PySem.F.slot_list_append PySem.F.type_list_append mt_append (pv 6) (pa_cons (pv 1) pa_nil)))) (pss_one (ps_if (pt_cmpR op_eq (pe_ix ix_tup (pv 7) pe_int (fun _ _ => rfl)) pe_str (nomark _)) (pss_one (ps_expr (pe_bm PySem.F.plainAttrs_list PySem.F.slot_list_append PySem.F.type_list_append mt_append (pv 6) (pa_cons (pe_ix ix_tup (pv 2) (pe_ix ix_tup (pv 7) pe_int (fun _ _ => rfl)) (fun _ _ => rfl)) pa_nil)))) (pss_one (ps_expr (pe_bm PySem.F.plainAttrs_list PySem.F.slot_list_append PySem.F.type_list_append mt_append (pv 6) (pa_cons (pe_callL (i := 3) okR hr rfl (Or.inl rfl) kR bR .nil pass0 (pa_cons (pv 7) (pa_cons (pv 6) (pa_cons (pv 4) (pa_cons (pv 5) pa_nil))))) pa_nil)))))))))
      (pss_one (ps_ret (pv 6))))))), ?_⟩
    obtain ⟨ok, dx, fl, rl, hl, pl, fv, rv, hv, b⟩ := id hn
    refine ⟨_, rfl, p, dx, _, rfl, b.ob, nl_no (by decide +kernel), p, n, rfl, hn, fun fl2 fv2 H1 hf1 s1 h_fl2 hff => ?_⟩
    refine ⟨_, rfl, p, dx, _, rfl, s1 _ _ b.ob, nl_no (by decide +kernel), p, n, rfl, hn.same s1, fun pl2 H2 hp2 s2 h_pl2 => ?_⟩
    refine ⟨(by show 0 ≤ sizeLine; decide), fun dl hdl => ?_⟩
    generalize hG : upd _ dl _ = H3
    obtain ⟨s3, h_dl⟩ := upd_gen hG hdl
    have S3 := (s1.trans s2).trans s3
    have hd0 : H dl = none := (s1.trans s2).free hdl
    refine ⟨_, rfl, p, dx, _, rfl, S3 _ _ b.ob, nl_no (by decide +kernel), p, n, rfl, hn.same S3, fun rl2 rv2 H4 hr4 s4 h_rl2 hrr => ?_⟩
    have S4 := S3.trans s4
    have ndf : fl2 ≠ dl := ne_of_none (s2 _ _ h_fl2) hdl
    have ndp : pl2 ≠ dl := ne_of_none h_pl2 hdl
    have nrd : rl2 ≠ dl := (ne_of_none h_dl hr4).symm
    replace h_dl := s4 _ _ h_dl
    replace h_fl2 := s4 _ _ (s3 _ _ (s2 _ _ h_fl2))
    replace h_pl2 := s4 _ _ (s3 _ _ h_pl2)
    replace hff := hff.same ((s2.trans s3).trans s4)
    have ll := hrr.len
    rw [List.length_map] at ll
    have hl60 := ok.r2
    have lpt := pts_len n
    refine ⟨rl2, rfl, ⟨_, SqL.of h_rl2⟩, ?_⟩
    refine for_it (walk_list (K := K) (a := rl2) (xs := rv2)) (fun i σ G => ∃ y : Option V, σ = [some (.ref p), some (.int x), some (.ref sa), some (.ref fR), some (.ref fl2), some (.ref pl2), some (.ref dl), y] ∧ SameBut dl H4 G ∧ G dl = some (.lst ((accL (numRow n.fs n.pts x st) (n.rows.take i)).map V.int))) ⟨none, rfl, SameBut.refl _ _, h_dl⟩ (fun i σ G hi hP => ?_) (fun i v σ G G' hi hP hY => ?_) (fun σ G hP => ?_)
    · obtain ⟨y, rfl, B, _⟩ := hP
      exact SqL.of (B _ _ nrd h_rl2)
    · obtain ⟨y, rfl, B, hd⟩ := hP
      obtain ⟨rfl, hx⟩ := hY
      obtain ⟨rp, xs, rfl, ex, hrp⟩ := hrr.get hx
      rw [List.getElem?_map] at ex
      obtain ⟨r, er, rfl⟩ := Option.map_eq_some_iff.mp ex
      have il := (List.getElem?_eq_some_iff.mp er).1
      replace hrp := B _ _ (ne_of hrp h_dl (fun z => nomatch z)) hrp
      have la : (accL (numRow n.fs n.pts x st) (n.rows.take i)).length = i := by
        rw [accL_len, List.length_take]
        omega
      have nx := accL_next (g := numRow n.fs n.pts x st) er
      have small : ((accL (numRow n.fs n.pts x st) (n.rows.take i)).map V.int).length < sizeLine := by
        rw [List.length_map, la]
        exact sl_lt (by omega)
      have step : ∀ (G2 : Hp), Same G' G2 → ∃ y : Option V, [some (V.ref p), some (.int x), some (.ref sa), some (.ref fR), some (.ref fl2), some (.ref pl2), some (.ref dl), some (.ref rp)] = [some (.ref p), some (.int x), some (.ref sa), some (.ref fR), some (.ref fl2), some (.ref pl2), some (.ref dl), y] ∧ SameBut dl H4 (upd G2 dl (.lst ((accL (numRow n.fs n.pts x st) (n.rows.take i)).map V.int ++ [V.int (numRow n.fs n.pts x st (accL (numRow n.fs n.pts x st) (n.rows.take i)) r)]))) ∧ (upd G2 dl (.lst ((accL (numRow n.fs n.pts x st) (n.rows.take i)).map V.int ++ [V.int (numRow n.fs n.pts x st (accL (numRow n.fs n.pts x st) (n.rows.take i)) r)]))) dl = some (.lst ((accL (numRow n.fs n.pts x st) (n.rows.take (i + 1))).map V.int)) := fun G2 s => by
        refine ⟨_, rfl, (B.trans (.of s)).trans SameBut.upd, ?_⟩
        rw [upd_same, nx, List.map_append]
        rfl
      refine ⟨_, rfl, rp, _, 0, .str r.kd.s, rfl, rfl, SqT.of hrp, atI_nat (j := 0) r.vs0, rfl, _, rfl, ?_⟩
      by_cases k1 : r.kd = .inn
      · refine iteC (d := true) (by rw [k1]; exact decide_eq_true rfl) (iteT ?_)
        match r, k1, step with
        | .inn, _, step => exact ⟨_, rfl, .inl ⟨rfl, _, SqL.of hd⟩, _, rfl, dl, _, _, rfl, rfl, hd, small, step _ (Same.refl _)⟩
      refine iteC (d := false) (decide_eq_false (fun z => kd_ne _ _ k1 (V.str.inj z))) (iteF ?_)
      refine ⟨_, rfl, rp, _, 0, .str r.kd.s, rfl, rfl, SqT.of hrp, atI_nat (j := 0) r.vs0, rfl, _, rfl, ?_⟩
      by_cases k2 : r.kd = .old
      · refine iteC (d := true) (by rw [k2]; exact decide_eq_true rfl) (iteT ?_)
        have hsa2 := B _ _ (ne_of (S4 _ _ hsa) h_dl (fun z => nomatch z)) (S4 _ _ hsa)
        match r, k2, step, hrp, ok.ro i r er with
        | .old k, _, step, hrp, hk =>
          have hk' : k < st.length := by rw [hls]; exact hk
          exact ⟨_, rfl, .inl ⟨rfl, _, SqL.of hd⟩, _, rfl, _, rfl, rp, _, 1, .int k, rfl, rfl, SqT.of hrp, a1, sa, _, _, _, rfl, rfl, SqT.of hsa2, ints_at hk', dl, _, _, rfl, rfl, hd, small, step _ (Same.refl _)⟩
      refine iteC (d := false) (decide_eq_false (fun z => kd_ne _ _ k2 (V.str.inj z))) (iteF ?_)
      refine ⟨_, rfl, .inl ⟨rfl, _, SqL.of hd⟩, rfl, _, rfl, _, rfl, _, rfl, _, rfl, rp, dl, fl2, pl2, r, fv2, n.fs, n.holds.length, x, st, _, n.pts, rfl, hrp, k1, k2, hd, B _ _ ndf h_fl2, hff.butL B h_dl, B _ _ ndp h_pl2, by rw [la]; exact ok.ro i r er, by omega, fun k hk => ko.pre hk, ok.po, fun G2 s => ?_⟩
      exact ⟨dl, _, _, rfl, rfl, s _ _ hd, small, step _ s⟩
    · obtain ⟨y, rfl, B, hd⟩ := hP
      rw [ll, List.take_length] at hd
      exact ⟨_, rfl, q dl _ hd0 (same_but S4 B hd0) hd⟩
end
end E1

namespace E1
open PySem PySem.Spec PyProof.Rows L2
section
variable {P : Program} {w : World} {K : PySem.W.Frag} {mg : Str → Option Value} {base : Heap}
theorem sc_is_state : FnScope ["net", "thing", "holds", "forms", "hold", "word"] ["net", "thing"] (defScope s_is_state) := ⟨rfl, rfl, rfl, by decide +kernel, rfl, by decide +kernel, by decide +kernel⟩
theorem ok_is_state {f : Addr} {fd : FuncData} {C CN : Addr} (T : FTxt K mg C) (TN : NTxt K mg CN) (F : Fun K "is_state" "is_state" s_is_state f fd) (z : Zs mg) (n_forms : CalM P w K mg base 1 CN "forms" ["self"] (spFormsM C CN)) (n_holds : CalM P w K mg base 1 CN "holds" ["self"] (spHoldsM C CN)) (m_has : CalM P w K mg base 2 C "has" ["self", "thing"] (spHas K C)) : FnOk P w K mg base CX0 3 f fd ["net", "thing"] (spIsState C CN) := by
  refine F.ok sc_is_state (fun vs H Q E h => ?_) (fun cdv A outer s H vs Q E hr h => ?_)
  · obtain ⟨p, sa, n, st, rfl, _⟩ := h
    rfl
  · obtain ⟨p, sa, n, st, rfl, hn, hsa, so, q⟩ := h
    refine ⟨_, (pss_cons (ps_set (i := 2) sc_is_state.nd rfl (.inl rfl) (pe_calm0 (pv 0) TN.cl n_holds hr))
      (pss_cons (ps_if (PW.pt (pw_or (pt_not (pt_val (pe_callB call_isi (by rfl) z.isinstance (by decide +kernel) (pa_cons (pv 1) (pa_cons (pe_bltn (v := .ty "tuple") (by rfl) z.tuple (by decide +kernel) rfl) pa_nil))))) (pw_or1 (pt_cmpR op_ne (pe_callB call_len_seq (by rfl) z.len PySem.boot_len (pa_cons (pv 1) pa_nil)) (pe_callB call_len_seq (by rfl) z.len PySem.boot_len (pa_cons (pv 2) pa_nil)) (nomark _))))) (pss_one (ps_ret pe_bl)) pss_nil)
      (pss_cons (ps_set (i := 3) sc_is_state.nd rfl (.inr rfl) (pe_calm0 (pv 0) TN.cl n_forms hr))
      (pss_one (ps_ret (pe_callB (cr_all rfl) (by rfl) z.all (by decide +kernel) (pa_cons (pe_lc (own := [("hold", 4), ("word", 5)]) (g := gTup K 2 (gCons (gName 4) (gCons (gName 5) gNil))) (tt := tYes) (te := tMeth C "has" (spHas K C) [] E0 (tOp (rIxL K) (tVar 3) (tOp (rIxT K) (tVar 4) (tC (.int 0)))) (tCons (tVar 5) tNil)) (by rfl) sc_is_state.nd (pi_zipM (by rfl) z.zip (pa_cons (pv 2) (pa_cons (pv 1) pa_nil))) (blkOk_by (own := [("hold", 4), ("word", 5)]) (N := ["net", "thing", "holds", "forms", "hold", "word"]) (sc := defScope s_is_state) (by decide +kernel)) (fun _ _ _ _ _ => by exact (pg_tup (by rfl) (pgs_cons (pg_name (i := 4) sc_is_state.nd rfl (.inl rfl)) (pgs_cons (pg_name (i := 5) sc_is_state.nd rfl (.inl rfl)) pgs_nil)))) (fun _ _ _ _ _ => by exact pts_nil) (fun _ _ _ _ _ => by exact (pe_calm (pe_ix ix_list (pv 3) (pe_ix ix_tup (pv 4) pe_int (fun _ _ => rfl)) (fun _ _ => rfl)) T.cl m_has hr (pa_cons (pv 5) pa_nil)))) pa_nil))))))), ?_⟩
    obtain ⟨ok, dx, fl, rl, hl, pl, fv, rv, hv, b⟩ := id hn
    have sl := so.len
    have h6 := ok.h2
    refine ⟨_, rfl, p, dx, _, rfl, b.ob, nl_no (by decide +kernel), p, n, rfl, hn, fun hl2 hv2 H1 hf1 s1 h_hl2 hhh => ?_⟩
    have lh := hhh.len
    rw [List.length_map] at lh
    refine ⟨_, rfl, _, .ty "tuple", _, _, true, rfl, .ty _, .base (.tup (s1 _ _ hsa)), kit_ty (by decide +kernel), _, rfl, iteF ⟨_, rfl, sa, _, rfl, .inr (SqT.of (s1 _ _ hsa)), _, rfl, hl2, _, rfl, .inl (SqL.of h_hl2), rfl, _, rfl, iteC (d := false) (by rw [List.length_map, sl, lh, decide_eq_true rfl]; rfl) (iteF ?_)⟩⟩
    refine ⟨_, rfl, p, dx, _, rfl, s1 _ _ b.ob, nl_no (by decide +kernel), p, n, rfl, hn.same s1, fun fl2 fv2 H2 hf2 s2 h_fl2 hff => ?_⟩
    have S2 := s1.trans s2
    have hsa2 := S2 _ _ hsa
    have hhl2 := s2 _ _ h_hl2
    refine ⟨_, rfl, _, rfl, hl2, sa, hv2, st.map V.int, rfl, SqL.of hhl2, SqT.of hsa2, fun D hD => ?_⟩
    refine lc_it (walk_zipM (K := K) (a := hl2) (b := sa) (xs := hv2) (ys := st.map V.int) (by rw [List.length_map]; omega)) (fun i G => Same H2 G ∧ G D = some (.lst ((List.replicate i true).map V.bl))) ⟨same_new hD, upd_same⟩ (fun i G _ hP => ⟨SqL.of (hP.1 _ _ hhl2), SqT.of (hP.1 _ _ hsa2)⟩) (fun i x G G' hi hP hY => ?_) (fun G hP => ?_)
    · obtain ⟨s3, hd⟩ := hP
      obtain ⟨Tp, u, v, rfl, nT, rfl, e1, e2⟩ := hY
      obtain ⟨hp, xs, rfl, ex, hhp⟩ := hhh.get e1
      replace e2 : (st.map V.int)[i]? = some v := e2
      rw [List.getElem?_map] at ex e2
      obtain ⟨hh, eh, rfl⟩ := Option.map_eq_some_iff.mp ex
      obtain ⟨k, ek, rfl⟩ := Option.map_eq_some_iff.mp e2
      have kl := (ok.ho hh (List.mem_of_getElem? eh)).1
      obtain ⟨fp, efp, hfp⟩ := hff.frm kl
      have sN := same_new (o := .tup [.ref hp, .int k]) nT
      have S3 := s3.trans sN
      have ffp := FormAt.same hfp S3
      obtain ⟨dxf, hof⟩ := ffp.ob
      refine ⟨Tp, _, rfl, SqT.of upd_same, rfl, _, _, rfl, _, _, rfl, rfl, rfl, ?_⟩
      refine ⟨_, rfl, _, rfl, hp, _, 0, .int hh.k, rfl, rfl, SqT.of (S3 _ _ (s2 _ _ hhp)), a0, fl2, _, _, .ref fp, rfl, rfl, SqL.of (S3 _ _ h_fl2), atI_nat efp, fp, dxf, _, rfl, hof, fl_no (by decide +kernel), _, rfl, fp, _, _, _, _, .int k, _, rfl, ffp, .inl ⟨k, rfl, rfl⟩, _, sN _ _ hd, ?_, fun c o e => ?_, ?_⟩
      · rw [List.length_map, List.length_replicate]
        exact sl_lt (by omega)
      · rw [upd_ne (ne_of_none e hD)]
        exact S3 _ _ e
      · rw [upd_same, so.inr i hh k eh ek, List.replicate_succ', List.map_append]
        rfl
    · obtain ⟨s3, hd⟩ := hP
      refine ⟨D, _, rfl, SqL.of hd, ?_⟩
      rw [show (List.replicate hv2.length true).all id = true by rw [List.all_eq_true]; exact fun x hx => (List.mem_replicate.mp hx).2]
      exact q _ (S2.trans s3)
theorem sc_check_state : FnScope ["net", "state"] ["net", "state"] (defScope s_check_state) := ⟨rfl, rfl, rfl, by decide +kernel, rfl, by decide +kernel, by decide +kernel⟩
theorem ok_check_state {f : Addr} {fd : FuncData} {C CN : Addr} (F : Fun K "check_state" "check_state" s_check_state f fd) (c_is_state : Cal P w K mg base 3 "is_state" ["net", "thing"] (spIsState C CN)) : FnOk P w K mg base CX0 4 f fd ["net", "state"] (spCkState C CN) := by
  refine F.ok sc_check_state (fun vs H Q E h => ?_) (fun cdv A outer s H vs Q E hr h => ?_)
  · obtain ⟨p, sa, n, st, rfl, _⟩ := h
    rfl
  · obtain ⟨p, sa, n, st, rfl, hn, hsa, so, q⟩ := h
    refine ⟨_, (pss_one (ps_if (pt_not (pt_val (pe_cal c_is_state hr (pa_cons (pv 0) (pa_cons (pv 1) pa_nil))))) (pss_one ps_never) pss_nil)), ?_⟩
    exact ⟨_, rfl, _, rfl, p, sa, n, st, rfl, hn, hsa, so, fun H' s => ⟨_, rfl, iteF (q _ s)⟩⟩
theorem sc_check_word : FnScope ["net", "word"] ["net", "word"] (defScope s_check_word) := ⟨rfl, rfl, rfl, by decide +kernel, rfl, by decide +kernel, by decide +kernel⟩
theorem ok_check_word {f : Addr} {fd : FuncData} {C CN : Addr} (T : FTxt K mg C) (F : Fun K "check_word" "check_word" s_check_word f fd) (c_enter_form : Cal P w K mg base 2 "enter_form" ["net"] (spEnterForm C CN)) (m_has : CalM P w K mg base 2 C "has" ["self", "thing"] (spHas K C)) : FnOk P w K mg base CX0 3 f fd ["net", "word"] (spCkWord C CN) := by
  refine F.ok sc_check_word (fun vs H Q E h => ?_) (fun cdv A outer s H vs Q E hr h => ?_)
  · obtain ⟨p, n, x, rfl, _⟩ := h
    rfl
  · obtain ⟨p, n, x, rfl, hn, hi, q⟩ := h
    refine ⟨_, (pss_one (ps_if (pt_not (pt_val (pe_calm (pe_cal c_enter_form hr (pa_cons (pv 0) pa_nil)) T.cl m_has hr (pa_cons (pv 1) pa_nil)))) (pss_one ps_never) pss_nil)), ?_⟩
    refine ⟨_, rfl, p, n, rfl, hn, fun fp H1 s1 hf => ?_⟩
    obtain ⟨dx, ho⟩ := hf.ob
    refine ⟨fp, dx, _, rfl, ho, fl_no (by decide +kernel), _, rfl, fp, _, _, _, _, .int x, _, rfl, hf, .inl ⟨x, rfl, rfl⟩, _, rfl, ?_⟩
    rw [hi]
    exact iteF (q _ s1)
theorem sc_state_behind : FnScope ["net", "numbers", "hold"] ["net", "numbers"] (defScope s_state_behind) := ⟨rfl, rfl, rfl, by decide +kernel, rfl, by decide +kernel, by decide +kernel⟩
theorem ok_state_behind {f : Addr} {fd : FuncData} {C CN : Addr} (TN : NTxt K mg CN) (F : Fun K "state_behind" "state_behind" s_state_behind f fd) (z : Zs mg) (n_holds : CalM P w K mg base 1 CN "holds" ["self"] (spHoldsM C CN)) : FnOk P w K mg base CX0 2 f fd ["net", "numbers"] (spBehind C CN) := by
  refine F.ok sc_state_behind (fun vs H Q E h => ?_) (fun cdv A outer s H vs Q E hr h => ?_)
  · obtain ⟨p, na, n, nums, rfl, _⟩ := h
    rfl
  · obtain ⟨p, na, n, nums, rfl, hn, hna, ln, q⟩ := h
    refine ⟨_, (pss_one (ps_ret (pe_callTy call_tuple_of (by rfl) z.tuple (by decide +kernel) (pa_cons (pe_lc (own := [("hold", 2)]) (g := gName 2) (tt := tYes) (te := (tOp (rIxL K) (tVar 1) (tOp (rIxT K) (tVar 2) (tC (.int 2))))) (by rfl) sc_state_behind.nd (pi_list (pe_calm0 (pv 0) TN.cl n_holds hr)) (blkOk_by (own := [("hold", 2)]) (N := ["net", "numbers", "hold"]) (sc := defScope s_state_behind) (by decide +kernel)) (fun _ _ _ _ _ => by exact (pg_name (i := 2) sc_state_behind.nd rfl (.inl rfl))) (fun _ _ _ _ _ => by exact pts_nil) (fun _ _ _ _ _ => by exact (pe_ix ix_list (pv 1) (pe_ix ix_tup (pv 2) pe_int (fun _ _ => rfl)) (fun _ _ => rfl)))) pa_nil)))), ?_⟩
    obtain ⟨ok, dx, fl, rl, hl, pl, fv, rv, hv, b⟩ := id hn
    have h6 := ok.h2
    refine ⟨_, rfl, p, dx, _, rfl, b.ob, nl_no (by decide +kernel), p, n, rfl, hn, fun hl2 hv2 H1 hf1 s1 h_hl2 hhh => ?_⟩
    have lh := hhh.len
    rw [List.length_map] at lh
    refine ⟨hl2, rfl, ⟨_, SqL.of h_hl2⟩, fun D hD => ?_⟩
    refine lc_it (walk_list (K := K) (a := hl2) (xs := hv2)) (fun i G => Same H1 G ∧ G D = some (.lst (((n.holds.take i).map fun h => nums.getD h.l 0).map V.int))) ⟨same_new hD, upd_same⟩ (fun i G _ hP => SqL.of (hP.1 _ _ h_hl2)) (fun i x G G' hi hP hY => ?_) (fun G hP => ?_)
    · obtain ⟨s3, hd⟩ := hP
      obtain ⟨rfl, e1⟩ := hY
      obtain ⟨hp, xs, rfl, ex, hhp⟩ := hhh.get e1
      rw [List.getElem?_map] at ex
      obtain ⟨hh, eh, rfl⟩ := Option.map_eq_some_iff.mp ex
      obtain ⟨a, ea⟩ := (ok.ho hh (List.mem_of_getElem? eh)).2.2
      have al := (List.getElem?_eq_some_iff.mp ea).1
      refine ⟨rfl, _, rfl, _, rfl, hp, _, 2, .int hh.l, rfl, rfl, SqT.of (s3 _ _ hhp), a2, na, _, _, _, rfl, rfl, SqL.of ((s1.trans s3) _ _ hna), ints_at (by omega), _, hd, ?_, fun c o e => ?_, ?_⟩
      · rw [List.length_map, List.length_map, List.length_take]
        exact sl_lt (by omega)
      · rw [upd_ne (ne_of_none e hD)]
        exact s3 _ _ e
      · rw [upd_same, List.take_add_one, eh, List.map_append, List.map_append]
        rfl
    · obtain ⟨s3, hd⟩ := hP
      rw [lh, List.take_length] at hd
      refine ⟨D, _, rfl, .inl ⟨SqL.of hd, fun t ht => ?_⟩⟩
      generalize hG : upd _ t _ = G2
      obtain ⟨s4, h_t⟩ := upd_gen hG ht
      exact q t _ ((s1.trans s3).free ht) ((s1.trans s3).trans s4) h_t
theorem sc_turn_of : FnScope ["net", "state", "word", "numbers"] ["net", "state", "word"] (defScope s_turn_of) := ⟨rfl, rfl, rfl, by decide +kernel, rfl, by decide +kernel, by decide +kernel⟩
theorem ok_turn_of {f : Addr} {fd : FuncData} {C CN fR : Addr} (gR : mg "number_of_row" = some (.ref fR)) (F : Fun K "turn_of" "turn_of" s_turn_of f fd) (c_swept : Cal P w K mg base 7 "swept" ["net", "heard", "held", "rule"] (spSwept C CN fR)) (c_state_behind : Cal P w K mg base 2 "state_behind" ["net", "numbers"] (spBehind C CN)) : FnOk P w K mg base CX0 8 f fd ["net", "state", "word"] (spTurnOf C CN) := by
  refine F.ok sc_turn_of (fun vs H Q E h => ?_) (fun cdv A outer s H vs Q E hr h => ?_)
  · obtain ⟨p, sa, n, x, st, rfl, _⟩ := h
    rfl
  · obtain ⟨p, sa, n, x, st, rfl, hn, hsa, hl, ko, q⟩ := h
    refine ⟨_, (pss_cons (ps_set (i := 3) sc_turn_of.nd rfl (.inl rfl) (pe_cal c_swept hr (pa_cons (pv 0) (pa_cons (pv 2) (pa_cons (pv 1) (pa_cons (pe_glob (v := .ref fR) (by rfl) gR rfl) pa_nil))))))
      (pss_one (ps_ret (pe_tup (pa_cons (pv 3) (pa_cons (pe_cal c_state_behind hr (pa_cons (pv 0) (pa_cons (pv 3) pa_nil))) pa_nil)))))), ?_⟩
    refine ⟨_, rfl, _, rfl, _, rfl, p, sa, n, x, st, rfl, hn, hsa, hl, ko, fun l H1 hl0 s1 h_l => ?_⟩
    refine ⟨_, rfl, _, rfl, _, rfl, p, l, n, _, rfl, hn.same s1, h_l, nums_len n x st, fun s H2 hs s2 h_s => ⟨(by show 2 ≤ sizeLine; decide), fun t ht => ?_⟩⟩
    generalize hG : upd _ t _ = G2
    obtain ⟨s3, h_t⟩ := upd_gen hG ht
    exact q t l s _ ((s1.trans s2).trans s3) ((s1.trans s2).free ht) hl0 (s1.free hs) h_t (s3 _ _ (s2 _ _ h_l)) (s3 _ _ h_s)
theorem sc_turned : FnScope ["net", "state", "word"] ["net", "state", "word"] (defScope s_turned) := ⟨rfl, rfl, rfl, by decide +kernel, rfl, by decide +kernel, by decide +kernel⟩
theorem ok_turned {f : Addr} {fd : FuncData} {C CN : Addr} (F : Fun K "turned" "turned" s_turned f fd) (c_check_state : Cal P w K mg base 4 "check_state" ["net", "state"] (spCkState C CN)) (c_check_word : Cal P w K mg base 3 "check_word" ["net", "word"] (spCkWord C CN)) (c_turn_of : Cal P w K mg base 8 "turn_of" ["net", "state", "word"] (spTurnOf C CN)) : FnOk P w K mg base CX0 9 f fd ["net", "state", "word"] (spTurned C CN) := by
  refine F.ok sc_turned (fun vs H Q E h => ?_) (fun cdv A outer s H vs Q E hr h => ?_)
  · obtain ⟨p, sa, n, x, st, rfl, _⟩ := h
    rfl
  · obtain ⟨p, sa, n, x, st, rfl, hn, hsa, so, hi, ko, q⟩ := h
    refine ⟨_, (pss_cons (ps_expr (pe_cal c_check_state hr (pa_cons (pv 0) (pa_cons (pv 1) pa_nil))))
      (pss_cons (ps_expr (pe_cal c_check_word hr (pa_cons (pv 0) (pa_cons (pv 2) pa_nil))))
      (pss_one (ps_ret (pe_cal c_turn_of hr (pa_cons (pv 0) (pa_cons (pv 1) (pa_cons (pv 2) pa_nil)))))))), ?_⟩
    refine ⟨_, rfl, _, rfl, p, sa, n, st, rfl, hn, hsa, so, fun H1 s1 => ?_⟩
    refine ⟨_, rfl, _, rfl, p, n, x, rfl, hn.same s1, hi, fun H2 s2 => ?_⟩
    have S := s1.trans s2
    exact ⟨_, rfl, _, rfl, _, rfl, p, sa, n, x, st, rfl, hn.same S, S _ _ hsa, so.len, ko, fun t l s H' s3 ht hl hs h_t h_l h_s => q t l s H' (S.trans s3) (S.free ht) (S.free hl) (S.free hs) h_t h_l h_s⟩
end
end E1

namespace E1
open PySem PySem.Spec PyProof.Rows L2

structure IsN (K : PySem.W.Frag) (mg : Str → Option Value) (CN : Addr) : Prop where
  gC : mg "Net" = some (.ref CN)
  ha : PySem.W.findIn K (.ref CN) "__class__" = some (some (.builtin "object.__class__"))
  hn : PySem.W.specialIn K (.builtin "object.__class__") "__get__" = some (some (.builtin "getset_descriptor.__get__"))
  ht : PySem.W.takesIn K (.builtin "object.__class__") = some true
  hm : PySem.W.mroIn K CN (.type "object") = some true
  kC : PySem.W.kitOne K (.ref CN) (.ref CN) = some true
structure OwnQ (K : PySem.W.Frag) (C : Addr) (f : Addr) (fd : FuncData) : Prop where
  find : PySem.W.findIn K (.ref C) "__eq__" = some (some (.ref f))
  fn : PySem.W.isFn K (.ref f) = true
  b : Binds K fd ["self", "other"] []
/-- two forms alike -/
def RF (C : Addr) : Addr → Addr → Hp → Prop := fun a b H => ∃ f : FormP, FAt C H a f ∧ FAt C H b f
def RN (C CN : Addr) : Addr → Addr → Hp → Prop := fun a b H => ∃ n : NetP, NetAt C CN H a n ∧ NetAt C CN H b n
theorem RF.mon {C : Addr} : ∀ a b H H', Ext H H' → RF C a b H → RF C a b H' := fun a b H H' e r => by
  obtain ⟨f, x, y⟩ := r
  exact ⟨f, FormAt.same x e, FormAt.same y e⟩
theorem RN.mon {C CN : Addr} : ∀ a b H H', Ext H H' → RN C CN a b H → RN C CN a b H' := fun a b H H' e r => by
  obtain ⟨n, x, y⟩ := r
  exact ⟨n, x.same e, y.same e⟩
theorem flat_same {x : V} (h : flatV x = true) (e : eqV x x = true) : DFlat x x (fun _ => none) := ⟨h, h, e⟩
theorem FsAt.prs {C : Addr} {H : Hp} {fs : List FormP} {vs ws : List V} (h : FsAt C H vs fs) (g : FsAt C H ws fs) : Prs (DIns C (RF C)) vs ws H := by
  refine ⟨h.len.trans g.len.symm, fun i x y e1 e2 => ?_⟩
  obtain ⟨p, f, rfl, ef, hp⟩ := h.get e1
  obtain ⟨q, f2, rfl, ef2, hq⟩ := g.get e2
  rw [ef] at ef2
  cases ef2
  obtain ⟨d1, o1⟩ := hp.ob
  obtain ⟨d2, o2⟩ := hq.ob
  exact ⟨p, q, d1, d2, _, _, rfl, rfl, o1, o2, f, hp, hq⟩
theorem TsAt.prs {K : PySem.W.Frag} {H : Hp} {xss : List (List V)} {vs ws : List V} (h : TsAt H vs xss) (g : TsAt H ws xss) (fl : ∀ xs ∈ xss, ∀ x ∈ xs, flatV x = true ∧ eqV x x = true) : Prs (DTup K DFlat) vs ws H := by
  refine ⟨h.len.trans g.len.symm, fun i x y e1 e2 => ?_⟩
  obtain ⟨p, xs, rfl, ef, hp⟩ := h.get e1
  obtain ⟨q, xs2, rfl, ef2, hq⟩ := g.get e2
  rw [ef] at ef2
  cases ef2
  refine ⟨p, q, xs, xs, rfl, rfl, SqT.of hp, SqT.of hq, rfl, fun j u v a b => ?_⟩
  rw [a] at b
  cases b
  obtain ⟨f1, f2⟩ := fl xs (List.mem_of_getElem? ef) u (List.mem_of_getElem? a)
  exact ⟨f1, f1, f2⟩
theorem Row.flat (r : Row) : ∀ x ∈ r.vs, flatV x = true ∧ eqV x x = true := by
  have i : ∀ k : Int, eqV (.int k) (.int k) = true := fun k => by
    show (k == k) = true
    exact beq_self_eq_true k
  intro x hx
  cases r <;> simp only [Row.vs, List.mem_cons, List.not_mem_nil, or_false] at hx
  · subst hx; exact ⟨rfl, by decide +kernel⟩
  · rcases hx with rfl | rfl
    · exact ⟨rfl, by decide +kernel⟩
    · exact ⟨rfl, i _⟩
  · rcases hx with rfl | rfl | rfl | rfl
    · exact ⟨rfl, by decide +kernel⟩
    all_goals exact ⟨rfl, i _⟩
  all_goals
    rcases hx with rfl | rfl | rfl
    · exact ⟨rfl, by decide +kernel⟩
    all_goals exact ⟨rfl, i _⟩
theorem Hold.flat (h : Hold) : ∀ x ∈ h.vs, flatV x = true ∧ eqV x x = true := by
  intro x hx
  simp only [Hold.vs, List.mem_cons, List.not_mem_nil, or_false] at hx
  rcases hx with rfl | rfl | rfl
  all_goals exact ⟨rfl, beq_self_eq_true _⟩
theorem rows_flat (rs : List Row) : ∀ xs ∈ rs.map Row.vs, ∀ x ∈ xs, flatV x = true ∧ eqV x x = true := fun xs h => by
  obtain ⟨r, _, rfl⟩ := List.mem_map.mp h
  exact r.flat
theorem holds_flat (hs : List Hold) : ∀ xs ∈ hs.map Hold.vs, ∀ x ∈ xs, flatV x = true ∧ eqV x x = true := fun xs h => by
  obtain ⟨r, _, rfl⟩ := List.mem_map.mp h
  exact r.flat
section
variable {P : Program} {w : World} {K : PySem.W.Frag} {mg : Str → Option Value} {base : Heap}
theorem sc_Form___eq__ : FnScope ["self", "other"] ["self", "other"] (defScope s_Form___eq__) := ⟨rfl, rfl, rfl, by decide +kernel, rfl, by decide +kernel, by decide +kernel⟩
theorem ok_Form___eq__ {f : Addr} {fd : FuncData} {k : Nat} {C : Addr} (T : FTxt K mg C) (IC : IsC K mg C) (F : Fun K "__eq__" "Form.__eq__" s_Form___eq__ f fd) (z : Zs mg) : FnOk P w K mg base CX0 (k + 1) f fd ["self", "other"] (spEq (RF C)) := by
  refine F.ok sc_Form___eq__ (fun vs H Q E h => ?_) (fun cdv A outer s H vs Q E hr h => ?_)
  · obtain ⟨a, c, rfl, _⟩ := h
    rfl
  · obtain ⟨a, c, rfl, ⟨ff, hf, hf2⟩, q⟩ := h
    obtain ⟨⟨dx, ho⟩, hw, h0, h1⟩ := id hf
    obtain ⟨⟨dx2, ho2⟩, _, _, _⟩ := id hf2
    refine ⟨_, (pss_one (ps_ret (pe_and (pe_callB call_isi (by rfl) z.isinstance (by decide +kernel) (pa_cons (pv 1) (pa_cons (pe_glob (v := .ref C) (by rfl) IC.gC rfl) pa_nil))) (pe_and (pe_cmpR op_eq (pe_fld (pv 0) rfl) (pe_fld (pv 1) rfl) (nomark _)) (pe_and (pe_cmpR op_eq (pe_fld (pv 0) rfl) (pe_fld (pv 1) rfl) (nomark _)) (pe_and (pe_cmpR op_eq (pe_fld (pv 0) rfl) (pe_fld (pv 1) rfl) (nomark _)) (pe_one (pe_cmpR op_eq (pe_fld (pv 0) rfl) (pe_fld (pv 1) rfl) (nomark _))))))))), ?_⟩
    refine ⟨_, rfl, _, .ref C, .ref C, .ref C, true, rfl, .own C, .base (.ins ho2 T.cl IC.ha IC.hn IC.ht IC.hm), IC.kC, _, rfl, iteT ⟨_, rfl, ?_⟩⟩
    exact ⟨a, C, dx, _, _, rfl, ho, T.cl, T.nW, fl_w, _, rfl, c, C, dx2, _, _, rfl, ho2, T.cl, T.nW, fl_w, (by cases ff.w <;> rfl), _, rfl, iteC (d := true) (decide_eq_true rfl) (iteT ⟨_, rfl, a, C, dx, _, _, rfl, ho, T.cl, T.nP, fl_p, _, rfl, c, C, dx2, _, _, rfl, ho2, T.cl, T.nP, fl_p, rfl, _, rfl, iteC (d := true) (decide_eq_true rfl) (iteT ⟨_, rfl, a, C, dx, _, _, rfl, ho, T.cl, T.nM, fl_m, _, rfl, c, C, dx2, _, _, rfl, ho2, T.cl, T.nM, fl_m, rfl, _, rfl, iteC (d := true) (decide_eq_true rfl) (iteT ⟨_, rfl, a, C, dx, _, _, rfl, ho, T.cl, T.nE, fl_e, _, rfl, c, C, dx2, _, _, rfl, ho2, T.cl, T.nE, fl_e, rfl, qt rfl (q _ Ext.rfl')⟩)⟩)⟩)⟩
theorem sc_Net___eq__ : FnScope ["self", "other"] ["self", "other"] (defScope s_Net___eq__) := ⟨rfl, rfl, rfl, by decide +kernel, rfl, by decide +kernel, by decide +kernel⟩
theorem ok_Net___eq__ {f : Addr} {fd : FuncData} {C CN : Addr} (TN : NTxt K mg CN) (IN : IsN K mg CN) {fF : Addr} {fdF : FuncData} (okF : FnOk P w K mg base CX0 1 fF fdF ["self", "other"] (spEq (RF C))) (OQ : OwnQ K C fF fdF) (F : Fun K "__eq__" "Net.__eq__" s_Net___eq__ f fd) (z : Zs mg) : FnOk P w K mg base CX0 4 f fd ["self", "other"] (spEq (RN C CN)) := by
  refine F.ok sc_Net___eq__ (fun vs H Q E h => ?_) (fun cdv A outer s H vs Q E hr h => ?_)
  · obtain ⟨a, c, rfl, _⟩ := h
    rfl
  · obtain ⟨a, c, rfl, ⟨n, ⟨ok, dx, fl, rl, hl, pl, fv, rv, hv, b1⟩, ⟨_, dx2, fl2, rl2, hl2, pl2, fv2, rv2, hv2, b2⟩⟩, q⟩ := h
    refine ⟨_, (pss_one (ps_ret (pe_and (pe_callB call_isi (by rfl) z.isinstance (by decide +kernel) (pa_cons (pv 1) (pa_cons (pe_glob (v := .ref CN) (by rfl) IN.gC rfl) pa_nil))) (pe_and (pe_cmpR (op_eqG (rcG_list (mon_ins RF.mon) (eqG_ins okF OQ.find OQ.fn OQ.b pass0)) (hr.mono (by decide))) (pe_fld (pv 0) rfl) (pe_fld (pv 1) rfl) (nomark _)) (pe_and (pe_cmpR op_eq (pe_fld (pv 0) rfl) (pe_fld (pv 1) rfl) (nomark _)) (pe_and (pe_cmpR (op_eqG (rcG_list (mon_tup mon_flat) (eqG_tup mon_flat eqG_flat)) (hr.mono (by decide))) (pe_fld (pv 0) rfl) (pe_fld (pv 1) rfl) (nomark _)) (pe_and (pe_cmpR (op_eqG (rcG_list (mon_tup mon_flat) (eqG_tup mon_flat eqG_flat)) (hr.mono (by decide))) (pe_fld (pv 0) rfl) (pe_fld (pv 1) rfl) (nomark _)) (pe_one (pe_cmpR op_eq (pe_fld (pv 0) rfl) (pe_fld (pv 1) rfl) (nomark _)))))))))), ?_⟩
    refine ⟨_, rfl, _, .ref CN, .ref CN, .ref CN, true, rfl, .own CN, .base (.ins b2.ob TN.cl IN.ha IN.hn IN.ht IN.hm), IN.kC, _, rfl, iteT ⟨_, rfl, ?_⟩⟩
    refine ⟨a, CN, dx, _, _, rfl, b1.ob, TN.cl, TN.n_form_list, nl_f, _, rfl, c, CN, dx2, _, _, rfl, b2.ob, TN.cl, TN.n_form_list, nl_f, ⟨fl, fl2, fv, fv2, rfl, rfl, b1.fa, b2.fa, b1.fs.prs b2.fs⟩, fun H1 e1 => ?_⟩
    replace b1 := b1.same e1
    replace b2 := b2.same e1
    refine ⟨_, rfl, iteT ⟨_, rfl, a, CN, dx, _, _, rfl, (b1.ob), TN.cl, TN.n_enters_at, nl_e, _, rfl, c, CN, dx2, _, _, rfl, (b2.ob), TN.cl, TN.n_enters_at, nl_e, rfl, _, rfl, iteC (d := true) (decide_eq_true rfl) (iteT ?_)⟩⟩
    refine ⟨_, rfl, a, CN, dx, _, _, rfl, (b1.ob), TN.cl, TN.n_row_list, nl_r, _, rfl, c, CN, dx2, _, _, rfl, (b2.ob), TN.cl, TN.n_row_list, nl_r, ⟨rl, rl2, rv, rv2, rfl, rfl, b1.ra, b2.ra, b1.rs.prs b2.rs (rows_flat _)⟩, fun H2 e2 => ?_⟩
    replace b1 := b1.same e2
    replace b2 := b2.same e2
    refine ⟨_, rfl, iteT ⟨_, rfl, a, CN, dx, _, _, rfl, (b1.ob), TN.cl, TN.n_hold_list, nl_h, _, rfl, c, CN, dx2, _, _, rfl, (b2.ob), TN.cl, TN.n_hold_list, nl_h, ⟨hl, hl2, hv, hv2, rfl, rfl, b1.ha, b2.ha, b1.hs.prs b2.hs (holds_flat _)⟩, fun H3 e3 => ?_⟩⟩
    replace b1 := b1.same e3
    replace b2 := b2.same e3
    exact ⟨_, rfl, iteT ⟨_, rfl, a, CN, dx, _, _, rfl, (b1.ob), TN.cl, TN.n_out_at, nl_o, _, rfl, c, CN, dx2, _, _, rfl, (b2.ob), TN.cl, TN.n_out_at, nl_o, rfl, qt rfl (q _ ((Ext.trans e1 e2).trans e3))⟩⟩
end
end E1

namespace E1
open PySem PySem.Spec PyProof.Rows L2

theorem WellAt.ne {H : Hp} {a p : Addr} {c : Int} (h : WellAt H a c) (hp : H p = none) : p ≠ a := fun e => by
  obtain ⟨x, y, z, ha, _⟩ := h
  rw [← e, hp] at ha
  cases ha
theorem WellAt.lst {H : Hp} {a : Addr} {c : Int} (h : WellAt H a c) : ∃ xs, H a = some (.lst xs) := by
  obtain ⟨x, y, z, ha, _⟩ := h
  exact ⟨_, ha⟩
theorem WellAt.nt {H : Hp} {a p : Addr} {c : Int} {xs : List V} (h : WellAt H a c) (hp : H p = some (.tup xs)) : p ≠ a := fun e => by
  obtain ⟨x, y, z, ha, _⟩ := h
  rw [← e, hp] at ha
  cases ha
theorem sevenI {r : Int} (h0 : 0 ≤ r) (h1 : r < 7) : ∃ m : Mn, atI [V.str "down", V.str "up", V.str "in", V.str "out", V.str "half", V.str "even", V.str "far"] r = some (.str m.str) := by
  rcases (by omega : r = 0 ∨ r = 1 ∨ r = 2 ∨ r = 3 ∨ r = 4 ∨ r = 5 ∨ r = 6) with rfl | rfl | rfl | rfl | rfl | rfl | rfl
  · exact ⟨.down, rfl⟩
  · exact ⟨.up, rfl⟩
  · exact ⟨.inn, rfl⟩
  · exact ⟨.out, rfl⟩
  · exact ⟨.half, rfl⟩
  · exact ⟨.even, rfl⟩
  · exact ⟨.far, rfl⟩
theorem endI {r : Int} (h0 : 0 ≤ r) (h1 : r < 2) : ∃ st, atI [V.str "wrap", V.str "stop"] r = some (.str (endS st)) := by
  rcases (by omega : r = 0 ∨ r = 1) with rfl | rfl
  · exact ⟨false, rfl⟩
  · exact ⟨true, rfl⟩
theorem twoI {x y : V} {r : Int} (h0 : 0 ≤ r) (h1 : r < 2) : ∃ v, atI [x, y] r = some v ∧ (v = x ∨ v = y) := by
  rcases (by omega : r = 0 ∨ r = 1) with rfl | rfl
  · exact ⟨x, rfl, .inl rfl⟩
  · exact ⟨y, rfl, .inr rfl⟩
theorem threeI {x y z : V} {r : Int} (h0 : 0 ≤ r) (h1 : r < 3) : ∃ v, atI [x, y, z] r = some v ∧ (v = x ∨ v = y ∨ v = z) := by
  rcases (by omega : r = 0 ∨ r = 1 ∨ r = 2) with rfl | rfl | rfl
  · exact ⟨x, rfl, .inl rfl⟩
  · exact ⟨y, rfl, .inr (.inl rfl)⟩
  · exact ⟨z, rfl, .inr (.inr rfl)⟩
def spLForm : Sp := fun vs H Q _ => ∃ (a : Addr) (fr : Bool) (R c : Int), vs = [.ref a, .bl fr, .int R] ∧ 0 ≤ R ∧ R ≤ 60 ∧ WellAt H a c ∧ 0 ≤ c ∧ c ≤ 10000 ∧ ∀ (f : FormP) (p : Addr) (H' : Hp), f.Ok → (fr = false → f.w ≠ none) → -R - 2 ≤ f.pt → f.pt ≤ R + 2 → SameBut a H H' → WellAt H' a (c + 7) → p ≠ a → H p = none → H' p = some (.tup f.vs) → Q (.ref p) H'
def spLWord : Sp := fun vs H Q _ => ∃ (a p : Addr) (f : FormP) (c : Int), vs = [.ref a, .ref p] ∧ H p = some (.tup f.vs) ∧ f.Ok ∧ WellAt H a c ∧ 0 ≤ c ∧ c ≤ 10000 ∧ ∀ (s : Int) (H' : Hp), inR f.w s = true → s.natAbs < 2 ^ 70 → SameBut a H H' → WellAt H' a (c + 5) → Q (.int s) H'
/-- by how much a row moves the point -/
def Row.by_ : Row → Int → Prop
  | .times _ m _, R => (m : Int) ≤ R
  | .move m _, R => -R ≤ m ∧ m ≤ R
  | _, _ => True
def spLRow : Sp := fun vs H Q _ => ∃ (a : Addr) (fc i hc : Nat) (fr : Bool) (R c : Int), vs = [.ref a, .int fc, .int i, .bl fr, .int R, .int hc] ∧ 1 ≤ fc ∧ fc ≤ 12 ∧ 1 ≤ i ∧ i ≤ 100 ∧ 0 ≤ R ∧ R ≤ 60 ∧ hc ≤ 100 ∧ WellAt H a c ∧ 0 ≤ c ∧ c ≤ 10000 ∧
  ∀ (r : Row) (p : Addr) (H' : Hp), RowOk hc fc i r → r.by_ R → (fr = true → r.small) → SameBut a H H' → WellAt H' a (c + 10) → p ≠ a → H p = none → H' p = some (.tup r.vs) → Q (.ref p) H'
theorem same_free {a p : Addr} {H H' : Hp} {xs : List V} (s : SameBut a H H') (ha : H a = some (.lst xs)) (h : H' p = none) (n : p ≠ a) : H p = none := by
  cases e : H p with
  | none => rfl
  | some o =>
    rw [s _ _ n e] at h
    cases h

theorem TsAt.push {H : Hp} {l p : Addr} {vs xs : List V} {xss : List (List V)} (hl : H l = some (.lst vs)) (t : TsAt H vs xss) (hp : H p = some (.tup xs)) : TsAt (upd H l (.lst (vs ++ [.ref p]))) (vs ++ [.ref p]) (xss ++ [xs]) := by
  refine TsAt.app (t.but SameBut.upd hl) (.cons ?_ .nil)
  rw [upd_ne (ne_of hp hl (fun z => nomatch z))]
  exact hp
def BegOk (hc : Nat) : Row → Prop
  | .inn => True
  | .old k => k < hc
  | _ => False
def spLBegin : Sp := fun vs H Q _ => ∃ (a : Addr) (hc : Nat) (c : Int), vs = [.ref a, .int hc] ∧ hc ≤ 3 ∧ WellAt H a c ∧ 0 ≤ c ∧ c ≤ 10000 ∧
  ∀ (rows : List Row) (l : Addr) (H' : Hp), (∀ r ∈ rows, BegOk hc r) → 1 ≤ rows.length → rows.length ≤ 6 → SameBut a H H' → WellAt H' a (c + 20) → l ≠ a → H l = none → TL7 H' l (rows.map Row.vs) → Q (.ref l) H'
/-- but for two -/
def SameBut2 (a l : Addr) (H H' : Hp) : Prop := ∀ b o, b ≠ a → b ≠ l → H b = some o → H' b = some o
theorem SameBut2.trans {a l : Addr} {H H1 H2 : Hp} (x : SameBut2 a l H H1) (y : SameBut2 a l H1 H2) : SameBut2 a l H H2 := fun b o n m e => y b o n m (x b o n m e)
theorem SameBut2.refl (a l : Addr) (H : Hp) : SameBut2 a l H H := fun _ _ _ _ e => e
theorem SameBut2.one {a l : Addr} {H H' : Hp} (s : SameBut a H H') : SameBut2 a l H H' := fun b o n _ e => s b o n e
theorem SameBut2.two {a l : Addr} {H H' : Hp} (s : SameBut l H H') : SameBut2 a l H H' := fun b o _ m e => s b o m e
theorem SameBut2.of {a l : Addr} {H H' : Hp} (s : Same H H') : SameBut2 a l H H' := fun b o _ _ e => s b o e
def MixRow (n0 : Nat) (M : Int) : Row → Prop
  | .times f m a => a < n0 ∧ (m : Int) ≤ M ∧ f.natAbs ≤ 9
  | .plus _ _ => True
  | .less _ _ => True
  | _ => False
def spLMixed : Sp := fun vs H Q _ => ∃ (a l : Addr) (rows : List Row) (M c : Int), vs = [.ref a, .ref l, .int M] ∧ TL7 H l (rows.map Row.vs) ∧ l ≠ a ∧ 0 ≤ M ∧ M ≤ 6 ∧ 1 ≤ rows.length ∧ rows.length ≤ 6 ∧ WellAt H a c ∧ 0 ≤ c ∧ c ≤ 10000 ∧
  ∀ (ex : List Row) (last : Nat) (H' : Hp), (∀ r ∈ ex, MixRow rows.length M r) → (∀ i r, (rows ++ ex)[i]? = some r → rows.length ≤ i → ∀ hc fc, RowOk hc fc i r) → last < (rows ++ ex).length → ex.length ≤ 10 → SameBut2 a l H H' → WellAt H' a (c + 20) → TL7 H' l ((rows ++ ex).map Row.vs) → Q (.int last) H'
def spLLink (K : PySem.W.Frag) : Sp := fun vs H Q _ => ∃ (a l : Addr) (rows : List Row) (kd last : Nat) (c : Int), vs = [.ref a, .ref l, .int kd, .int last] ∧ TL7 H l (rows.map Row.vs) ∧ l ≠ a ∧ last < rows.length ∧ rows.length ≤ 50 ∧ WellAt H a c ∧ 0 ≤ c ∧ c ≤ 10000 ∧
  ∀ (ex : List Row) (j x : Nat) (H' : Hp), (ex = [] ∨ ex = [.keep kd x] ∧ x < rows.length) → (∃ y, (rows ++ ex)[j]? = some (.keep kd y)) → SameBut2 a l H H' → WellAt H' a (c + 5) → TL7 H' l ((rows ++ ex).map Row.vs) → Q (.int j) H'
theorem range_snoc {β : Type} (f : Nat → β) (i : Nat) : (List.range (i + 1)).map f = (List.range i).map f ++ [f i] := by
  rw [List.range_succ, List.map_append]
  rfl
theorem snoc_at {rows ex : List Row} {r r' : Row} {i : Nat} (h : (rows ++ (ex ++ [r']))[i]? = some r) : (rows ++ ex)[i]? = some r ∨ (i = (rows ++ ex).length ∧ r = r') := by
  rw [← List.append_assoc] at h
  by_cases c : i < (rows ++ ex).length
  · rw [List.getElem?_append_left c] at h
    exact .inl h
  · rw [List.getElem?_append_right (by omega)] at h
    have : i - (rows ++ ex).length = 0 := by
      have := (List.getElem?_eq_some_iff.mp h).1
      simp only [List.length_singleton] at this
      omega
    rw [this] at h
    refine .inr ⟨by omega, (Option.some.inj h).symm⟩

theorem TL7.push {G : Hp} {l p : Addr} {rows : List Row} {r : Row} {vs : List V} (hl : G l = some (.lst vs)) (t : TsAt G vs (rows.map Row.vs)) (hp : G p = some (.tup r.vs)) : TL7 (upd G l (.lst (vs ++ [.ref p]))) l ((rows ++ [r]).map Row.vs) := by
  refine ⟨_, upd_same, ?_⟩
  rw [List.map_append]
  exact TsAt.push hl t hp
theorem TsAt.rlen {G : Hp} {rows : List Row} {vs : List V} (t : TsAt G vs (rows.map Row.vs)) : vs.length = rows.length := by
  rw [t.len, List.length_map]
theorem snoc_len {rows ex : List Row} {r : Row} : (rows ++ (ex ++ [r])).length = (rows ++ ex).length + 1 := by simp only [List.length_append, List.length_singleton]; omega
/-- a row's first two things -/
def Row.d2 : Row → List PyData
  | .inn => [.str "in"]
  | .old k => [.str "old", .int k]
  | .times f _ _ => [.str "times", .int f]
  | .plus a _ => [.str "plus", .int a]
  | .less a _ => [.str "less", .int a]
  | .move m _ => [.str "move", .int m]
  | .keep f _ => [.str "keep", .int f]
theorem Row.d2_shaped (r : Row) : SeqAt.shaped (.tuple r.d2) = true := by
  have k1 : ∀ (z : Str) (k : Int), PyData.canLay0 (.str z) = true → SeqAt.shaped (.tuple [.str z, .int k]) = true := fun z k h => by
    show (PyData.canLay0 (.tuple [.str z, .int k]) && decide (PyData.depth (.tuple [.str z, .int k]) ≤ 64)) = true
    have e : PyData.canLay0 (.tuple [.str z, .int k]) = true := by
      simp only [PyData.canLay0, PyData.canLayAll0, Bool.and_true] at h ⊢
      exact h
    rw [e, Bool.true_and]
    simp only [PyData.depth, PyData.depthAll]
    rfl
  cases r with
  | inn => exact (by decide +kernel : SeqAt.shaped (.tuple [.str "in"]) = true)
  | old k => exact k1 _ _ (by simp only [PyData.canLay0]; decide +kernel)
  | times f m a => exact k1 _ _ (by simp only [PyData.canLay0]; decide +kernel)
  | plus a b => exact k1 _ _ (by simp only [PyData.canLay0]; decide +kernel)
  | less a b => exact k1 _ _ (by simp only [PyData.canLay0]; decide +kernel)
  | move m a => exact k1 _ _ (by simp only [PyData.canLay0]; decide +kernel)
  | keep f a => exact k1 _ _ (by simp only [PyData.canLay0]; decide +kernel)
theorem Row.d2_keep (r : Row) (kd : Nat) (h : PyData.eqv (.tuple r.d2) (.tuple [.str "keep", .int kd]) = true) : ∃ y, r = .keep kd y := by
  have ne : ∀ (z : Str), (z == ("keep" : Str)) = false → ∀ t, PyData.eqv (.tuple (.str z :: t)) (.tuple [.str "keep", .int kd]) = true → False := fun z hz t e => by
    simp only [PyData.eqv, PyData.eqvAll] at e
    rw [hz] at e
    cases e
  cases r with
  | inn => exact (ne _ (by decide +kernel) _ h).elim
  | old k => exact (ne _ (by decide +kernel) _ h).elim
  | times f m a => exact (ne _ (by decide +kernel) _ h).elim
  | plus a b => exact (ne _ (by decide +kernel) _ h).elim
  | less a b => exact (ne _ (by decide +kernel) _ h).elim
  | move m a => exact (ne _ (by decide +kernel) _ h).elim
  | keep f a =>
    simp only [Row.d2, PyData.eqv, PyData.eqvAll, Bool.and_true, Bool.and_eq_true, beq_iff_eq] at h
    have := h.2
    refine ⟨a, ?_⟩
    congr 1
    omega
theorem Row.dp1 {K : PySem.W.Frag} {H : Hp} (r : Row) (h : HT.sIx r.vs.length 0 none = 0 ∧ HT.sIx r.vs.length r.vs.length (some 2) = r.vs.length) : DpAll K H r.vs r.d2 := by
  cases r with
  | inn => exact .cons (.str _) .nil
  | old k => exact .cons (.str _) (.cons (.int _) .nil)
  | times f m a => exact absurd h (by show ¬ (HT.sIx 4 0 none = 0 ∧ HT.sIx 4 4 (some 2) = 4); decide)
  | plus a b => exact absurd h (by show ¬ (HT.sIx 3 0 none = 0 ∧ HT.sIx 3 3 (some 2) = 3); decide)
  | less a b => exact absurd h (by show ¬ (HT.sIx 3 0 none = 0 ∧ HT.sIx 3 3 (some 2) = 3); decide)
  | move m a => exact absurd h (by show ¬ (HT.sIx 3 0 none = 0 ∧ HT.sIx 3 3 (some 2) = 3); decide)
  | keep f a => exact absurd h (by show ¬ (HT.sIx 3 0 none = 0 ∧ HT.sIx 3 3 (some 2) = 3); decide)
theorem Row.dp2 {K : PySem.W.Frag} {H : Hp} (r : Row) : DpAll K H (cutV r.vs none (some 2)) r.d2 := by
  cases r with
  | inn => exact .cons (.str _) .nil
  | old k => exact .cons (.str _) (.cons (.int _) .nil)
  | times f m a => exact .cons (.str _) (.cons (.int _) .nil)
  | plus a b => exact .cons (.str _) (.cons (.int _) .nil)
  | less a b => exact .cons (.str _) (.cons (.int _) .nil)
  | move m a => exact .cons (.str _) (.cons (.int _) .nil)
  | keep f a => exact .cons (.str _) (.cons (.int _) .nil)
theorem dp_nats {K : PySem.W.Frag} {H : Hp} : ∀ ns : List Nat, DpAll K H (ns.map fun n : Nat => V.int (n : Int)) ((ns.map fun n : Nat => (n : Int)).map PyData.int)
  | [] => .nil
  | _ :: ns => .cons (.int _) (dp_nats ns)
/-! ### how far the points of a net go -/
structure Bd (en : Int) (hp fp : List Int) (W : Int) : Prop where
  w0 : 0 ≤ W
  en : -W ≤ en ∧ en ≤ W
  hp : ∀ x ∈ hp, -W ≤ x ∧ x ≤ W
  fp : ∀ x ∈ fp, -W ≤ x ∧ x ≤ W
theorem getD_bd {l : List Int} {k : Nat} {W : Int} (h : ∀ x ∈ l, -W ≤ x ∧ x ≤ W) (w : 0 ≤ W) : -W ≤ l.getD k 0 ∧ l.getD k 0 ≤ W := by
  by_cases c : k < l.length
  · refine h _ ?_
    rw [List.getD_eq_getElem?_getD, List.getElem?_eq_getElem c]
    exact List.getElem_mem _
  · rw [List.getD_eq_getElem?_getD, List.getElem?_eq_none (by omega)]
    show -W ≤ 0 ∧ (0 : Int) ≤ W
    omega
structure RowsG (hc fc : Nat) (en : Int) (hp fp : List Int) (rows : List Row) (B : Int) : Prop where
  ok : ∀ i r, rows[i]? = some r → RowOk hc fc i r
  pb : ∀ p ∈ ptsOf en hp fp rows, -B ≤ p ∧ p ≤ B
theorem row_get {rows : List Row} {r r' : Row} {i : Nat} (h : (rows ++ [r'])[i]? = some r) : rows[i]? = some r ∨ (i = rows.length ∧ r = r') := by
  have := snoc_at (rows := rows) (ex := []) (r := r) (r' := r') (i := i) (by rw [List.nil_append]; exact h)
  rw [List.append_nil] at this
  exact this
section
variable {hc fc : Nat} {en : Int} {hp fp : List Int} {W R B B' M : Int}
theorem RowsG.mono {rows : List Row} (g : RowsG hc fc en hp fp rows B) (l : B ≤ B') : RowsG hc fc en hp fp rows B' :=
  ⟨g.ok, fun p h => by have := g.pb p h; omega⟩
theorem rowPt_bd {pts : List Int} (b : Bd en hp fp W) (wb : W ≤ B) (r0 : 0 ≤ R) (hpb : ∀ p ∈ pts, -B ≤ p ∧ p ≤ B) (r : Row) (by_ : r.by_ R) : -(B + R) ≤ rowPt en hp fp pts r ∧ rowPt en hp fp pts r ≤ B + R := by
  have w0 := b.w0
  have P : ∀ k, -B ≤ pts.getD k 0 ∧ pts.getD k 0 ≤ B := fun k => getD_bd hpb (by omega)
  have Hq : ∀ k, -W ≤ hp.getD k 0 ∧ hp.getD k 0 ≤ W := fun k => getD_bd b.hp w0
  have Fq : ∀ k, -W ≤ fp.getD k 0 ∧ fp.getD k 0 ≤ W := fun k => getD_bd b.fp w0
  cases r with
  | inn =>
    have := b.en
    show -(B + R) ≤ en ∧ en ≤ B + R
    omega
  | old k =>
    have := Hq k
    show -(B + R) ≤ hp.getD k 0 ∧ hp.getD k 0 ≤ B + R
    omega
  | times f m a =>
    have := P a
    have h : (m : Int) ≤ R := by_
    show -(B + R) ≤ pts.getD a 0 + m ∧ pts.getD a 0 + m ≤ B + R
    omega
  | plus x y =>
    have := P x
    have := P y
    show -(B + R) ≤ (if pts.getD y 0 > pts.getD x 0 then pts.getD y 0 else pts.getD x 0) ∧ (if pts.getD y 0 > pts.getD x 0 then pts.getD y 0 else pts.getD x 0) ≤ B + R
    split <;> omega
  | less x y =>
    have := P x
    have := P y
    show -(B + R) ≤ (if pts.getD y 0 > pts.getD x 0 then pts.getD y 0 else pts.getD x 0) ∧ (if pts.getD y 0 > pts.getD x 0 then pts.getD y 0 else pts.getD x 0) ≤ B + R
    split <;> omega
  | move m a =>
    have := P a
    obtain ⟨h1, h2⟩ : -R ≤ m ∧ m ≤ R := by_
    show -(B + R) ≤ pts.getD a 0 - m ∧ pts.getD a 0 - m ≤ B + R
    omega
  | keep f a =>
    have := Fq f
    show -(B + R) ≤ fp.getD f 0 ∧ fp.getD f 0 ≤ B + R
    omega
theorem RowsG.snoc {rows : List Row} {r : Row} (g : RowsG hc fc en hp fp rows B) (b : Bd en hp fp W) (wb : W ≤ B) (r0 : 0 ≤ R) (ok : RowOk hc fc rows.length r) (by_ : r.by_ R) : RowsG hc fc en hp fp (rows ++ [r]) (B + R) := by
  refine ⟨fun i x h => ?_, fun p h => ?_⟩
  · rcases row_get h with h | ⟨rfl, rfl⟩
    · exact g.ok i x h
    · exact ok
  · rw [ptsOf_snoc] at h
    rcases List.mem_append.mp h with h | h
    · have := g.pb p h
      omega
    · rw [List.mem_singleton.mp h]
      exact rowPt_bd b wb r0 g.pb r by_
theorem RowsG.keep {rows : List Row} {kd x : Nat} (g : RowsG hc fc en hp fp rows B) (b : Bd en hp fp W) (wb : W ≤ B) (hk : kd < fc) (hx : x < rows.length) : RowsG hc fc en hp fp (rows ++ [.keep kd x]) B := by
  have := g.snoc (r := .keep kd x) (R := 0) b wb (Int.le_refl _) ⟨hk, hx⟩ trivial
  exact this.mono (by omega)
theorem RowsG.begin {rows : List Row} (b : Bd en hp fp W) (h : ∀ r ∈ rows, BegOk hc r) : RowsG hc fc en hp fp rows W := by
  refine ⟨fun i r e => ?_, fun p hpm => ?_⟩
  · have := h r (List.mem_of_getElem? e)
    cases r with
    | inn => trivial
    | old k => exact this
    | _ => exact this.elim
  · obtain ⟨i, hi, rfl⟩ := List.getElem_of_mem hpm
    have hl : i < rows.length := by rw [ptsOf_len] at hi; exact hi
    have e := List.getElem?_eq_getElem hl
    have e2 := accL_at (g := rowPt en hp fp) e
    rw [← ptsOf_acc, List.getElem?_eq_getElem hi] at e2
    rw [Option.some.inj e2]
    have := h _ (List.getElem_mem hl)
    generalize rows[i] = r at *
    cases r with
    | inn => exact b.en
    | old k => exact getD_bd b.hp b.w0
    | _ => exact this.elim
theorem getD_pre {l t : List Int} {k : Nat} (h : k < l.length) : (l ++ t).getD k 0 = l.getD k 0 := by
  rw [List.getD_eq_getElem?_getD, List.getD_eq_getElem?_getD, List.getElem?_append_left h]
theorem mix_pb {rows : List Row} (m0 : 0 ≤ M) (b : Bd en hp fp W) (hb : ∀ p ∈ ptsOf en hp fp rows, -W ≤ p ∧ p ≤ W) : ∀ (n : Nat) (ex : List Row), ex.length = n → (∀ r ∈ ex, MixRow rows.length M r) → ∀ p ∈ ptsOf en hp fp (rows ++ ex), -(W + M) ≤ p ∧ p ≤ W + M := by
  have w0 := b.w0
  intro n
  induction n with
  | zero =>
    intro ex le _ p h
    rw [List.length_eq_zero_iff.mp le, List.append_nil] at h
    have := hb p h
    omega
  | succ n ih =>
    intro ex le hm p h
    obtain ⟨ex', r, rfl⟩ : ∃ ex' r, ex = ex' ++ [r] := by
      have hne : ex ≠ [] := fun z => by rw [z] at le; cases le
      exact ⟨_, _, (List.dropLast_concat_getLast hne).symm⟩
    have le' : ex'.length = n := by rw [List.length_append, List.length_singleton] at le; omega
    have ih' := ih ex' le' fun x hx => hm x (List.mem_append.mpr (.inl hx))
    rw [← List.append_assoc, ptsOf_snoc] at h
    rcases List.mem_append.mp h with h | h
    · exact ih' p h
    · rw [List.mem_singleton.mp h]
      have P : ∀ k, -(W + M) ≤ (ptsOf en hp fp (rows ++ ex')).getD k 0 ∧ (ptsOf en hp fp (rows ++ ex')).getD k 0 ≤ W + M := fun k => getD_bd ih' (by omega)
      have hr := hm r (List.mem_append.mpr (.inr (List.mem_singleton.mpr rfl)))
      cases r with
      | times f m a =>
        obtain ⟨h1, h2, _⟩ := hr
        show -(W + M) ≤ (ptsOf en hp fp (rows ++ ex')).getD a 0 + m ∧ (ptsOf en hp fp (rows ++ ex')).getD a 0 + m ≤ W + M
        obtain ⟨t, et⟩ := accL_pre (rowPt en hp fp) rows ex'
        rw [← ptsOf_acc, ← ptsOf_acc] at et
        rw [et, getD_pre (by rw [ptsOf_len]; exact h1)]
        have := getD_bd (k := a) hb w0
        omega
      | plus x y =>
        have := P x
        have := P y
        show -(W + M) ≤ (if (ptsOf en hp fp (rows ++ ex')).getD y 0 > (ptsOf en hp fp (rows ++ ex')).getD x 0 then (ptsOf en hp fp (rows ++ ex')).getD y 0 else (ptsOf en hp fp (rows ++ ex')).getD x 0) ∧ (if (ptsOf en hp fp (rows ++ ex')).getD y 0 > (ptsOf en hp fp (rows ++ ex')).getD x 0 then (ptsOf en hp fp (rows ++ ex')).getD y 0 else (ptsOf en hp fp (rows ++ ex')).getD x 0) ≤ W + M
        split <;> omega
      | less x y =>
        have := P x
        have := P y
        show -(W + M) ≤ (if (ptsOf en hp fp (rows ++ ex')).getD y 0 > (ptsOf en hp fp (rows ++ ex')).getD x 0 then (ptsOf en hp fp (rows ++ ex')).getD y 0 else (ptsOf en hp fp (rows ++ ex')).getD x 0) ∧ (if (ptsOf en hp fp (rows ++ ex')).getD y 0 > (ptsOf en hp fp (rows ++ ex')).getD x 0 then (ptsOf en hp fp (rows ++ ex')).getD y 0 else (ptsOf en hp fp (rows ++ ex')).getD x 0) ≤ W + M
        split <;> omega
      | inn => exact hr.elim
      | old k => exact hr.elim
      | move m a => exact hr.elim
      | keep f a => exact hr.elim
theorem RowsG.mix {rows ex : List Row} (m0 : 0 ≤ M) (b : Bd en hp fp W) (g : RowsG hc fc en hp fp rows W) (hm : ∀ r ∈ ex, MixRow rows.length M r) (ho : ∀ i r, (rows ++ ex)[i]? = some r → rows.length ≤ i → ∀ hc fc, RowOk hc fc i r) : RowsG hc fc en hp fp (rows ++ ex) (W + M) := by
  refine ⟨fun i r e => ?_, mix_pb m0 b g.pb _ ex rfl hm⟩
  by_cases c : i < rows.length
  · rw [List.getElem?_append_left c] at e
    exact g.ok i r e
  · exact ho i r e (by omega) _ _
end
/-! ### the heap of a law's net -/
theorem TsAt.but2 {H H' : Hp} {a l : Addr} {xs ys vs : List V} {xss : List (List V)} (h : TsAt H vs xss) (s : SameBut2 a l H H') (ha : H a = some (.lst xs)) (hl : H l = some (.lst ys)) : TsAt H' vs xss :=
  h.mono fun _ _ e => s _ _ (ne_of e ha (fun z => nomatch z)) (ne_of e hl (fun z => nomatch z)) e
theorem TL7.but2 {H H' : Hp} {a l b : Addr} {xs ys : List V} {xss : List (List V)} (h : TL7 H b xss) (s : SameBut2 a l H H') (ha : H a = some (.lst xs)) (hl : H l = some (.lst ys)) (n1 : b ≠ a) (n2 : b ≠ l) : TL7 H' b xss := by
  obtain ⟨vs, e, t⟩ := h
  exact ⟨vs, s _ _ n1 n2 e, t.but2 s ha hl⟩
def nI (n : Nat) : V := .int (n : Int)
structure NB (H G : Hp) (a kl fl ml : Addr) (ks : List Nat) (fs : List FormP) (rows : List Row) (c : Int) : Prop where
  sb : SameBut a H G
  w : WellAt G a c
  k : G kl = some (.lst (ks.map nI))
  f : TL7 G fl (fs.map FormP.vs)
  m : TL7 G ml (rows.map Row.vs)
  n1 : kl ≠ a
  n2 : fl ≠ a
  n3 : ml ≠ a
  n4 : kl ≠ ml
  n5 : fl ≠ ml
  f0 : H ml = none
section
variable {H G G' : Hp} {a kl fl ml : Addr} {ks : List Nat} {fs : List FormP} {rows rows' : List Row} {c c' : Int}
theorem NB.one (b : NB H G a kl fl ml ks fs rows c) (s : SameBut a G G') (w : WellAt G' a c') : NB H G' a kl fl ml ks fs rows c' := by
  obtain ⟨xs, hx⟩ := b.w.lst
  exact ⟨b.sb.trans s, w, s _ _ b.n1 b.k, b.f.but s hx b.n2, b.m.but s hx b.n3, b.n1, b.n2, b.n3, b.n4, b.n5, b.f0⟩
theorem NB.new (b : NB H G a kl fl ml ks fs rows c) (s : Same G G') : NB H G' a kl fl ml ks fs rows c := b.one (.of s) (b.w.same s)
theorem NB.mono (b : NB H G a kl fl ml ks fs rows c) (l : c ≤ c') : NB H G a kl fl ml ks fs rows c' := ⟨b.sb, b.w.mono l, b.k, b.f, b.m, b.n1, b.n2, b.n3, b.n4, b.n5, b.f0⟩
theorem NB.two (b : NB H G a kl fl ml ks fs rows c) (s : SameBut2 a ml G G') (w : WellAt G' a c') (m : TL7 G' ml (rows'.map Row.vs)) : NB H G' a kl fl ml ks fs rows' c' := by
  obtain ⟨xs, hx⟩ := b.w.lst
  obtain ⟨ys, hy, _⟩ := b.m
  refine ⟨fun x o n e => s x o n (fun z => ?_) (b.sb x o n e), w, s _ _ b.n1 b.n4 b.k, b.f.but2 s hx hy b.n2 b.n5, m, b.n1, b.n2, b.n3, b.n4, b.n5, b.f0⟩
  have := b.f0
  rw [← z, e] at this
  cases this
theorem NB.but {x : Addr} {ys : List V} (b : NB H G a kl fl ml ks fs rows c) (s : SameBut x G G') (hx : G x = some (.lst ys)) (h0 : H x = none) (m1 : a ≠ x) (m2 : kl ≠ x) (m3 : fl ≠ x) (m4 : ml ≠ x) : NB H G' a kl fl ml ks fs rows c := by
  refine ⟨fun y o n e => s y o (fun z => ?_) (b.sb y o n e), b.w.but s m1, s _ _ m2 b.k, b.f.but s hx m3, b.m.but s hx m4, b.n1, b.n2, b.n3, b.n4, b.n5, b.f0⟩
  rw [z, h0] at e
  cases e
end
/-- the parts of a law's net -/
def PartsAt (H : Hp) (p : Addr) (n : NetP) : Prop := ∃ fa ra ha, H p = some (.tup [.ref fa, .int n.en, .ref ra, .ref ha, .int n.out]) ∧ TL7 H fa (n.fs.map FormP.vs) ∧ TL7 H ra (n.rows.map Row.vs) ∧ TL7 H ha (n.holds.map Hold.vs)
theorem PartsAt.same {H H' : Hp} {p : Addr} {n : NetP} (h : PartsAt H p n) (s : Same H H') : PartsAt H' p n := by
  obtain ⟨fa, ra, ha, e, x, y, z⟩ := h
  exact ⟨fa, ra, ha, s _ _ e, x.same s, y.same s, z.same s⟩
theorem PartsAt.but {H H' : Hp} {p a : Addr} {n : NetP} {ys : List V} (h : PartsAt H p n) (s : SameBut a H H') (ha : H a = some (.lst ys)) (n1 : ∀ fa ra hb, H p = some (.tup [.ref fa, .int n.en, .ref ra, .ref hb, .int n.out]) → fa ≠ a ∧ ra ≠ a ∧ hb ≠ a) : PartsAt H' p n := by
  obtain ⟨fa, ra, hb, e, x, y, z⟩ := h
  obtain ⟨m1, m2, m3⟩ := n1 fa ra hb e
  exact ⟨fa, ra, hb, s _ _ (ne_of e ha (fun z => nomatch z)) e, x.but s ha m1, y.but s ha m2, z.but s ha m3⟩
def HoldOk (fs : List FormP) (rows : List Row) (h : Hold) : Prop := h.k < fs.length ∧ inR (frm fs h.k).w h.s = true ∧ h.s.natAbs < 2 ^ 70 ∧ ∃ x, rows[h.l]? = some (.keep h.k x)
theorem HoldOk.more {fs : List FormP} {rows t : List Row} {h : Hold} (k : HoldOk fs rows h) : HoldOk fs (rows ++ t) h := by
  obtain ⟨a, b, c, x, e⟩ := k
  refine ⟨a, b, c, x, ?_⟩
  rw [List.getElem?_append_left (List.getElem?_eq_some_iff.mp e).1]
  exact e
def spLNet : Sp := fun vs H Q _ => ∃ a : Addr, vs = [.ref a] ∧ WellAt H a 3 ∧ ∀ (n : NetP) (p : Addr) (H' : Hp), NetOk n → (∀ h ∈ n.holds, h.s.natAbs < 2 ^ 70) → Mild n → n.rows.length ≤ 26 → WellAt H' a 300 → SameBut a H H' → H p = none → (∀ G, SameBut a H' G → PartsAt G p n) → Q (.ref p) H'
theorem sixR {r : Int} (h0 : 0 ≤ r) (h1 : r < 6) : ∃ R : Int, atI [V.int 5, V.int 5, V.int 20, V.int 20, V.int 20, V.int 60] r = some (.int R) ∧ 5 ≤ R ∧ R ≤ 60 ∧ (r ≠ 5 → R ≤ 20) ∧ (r < 2 → R ≤ 5) := by
  rcases (by omega : r = 0 ∨ r = 1 ∨ r = 2 ∨ r = 3 ∨ r = 4 ∨ r = 5) with rfl | rfl | rfl | rfl | rfl | rfl
  · exact ⟨5, rfl, by omega, by omega, fun _ => by omega, fun _ => by omega⟩
  · exact ⟨5, rfl, by omega, by omega, fun _ => by omega, fun _ => by omega⟩
  · exact ⟨20, rfl, by omega, by omega, fun _ => by omega, fun z => absurd z (by decide)⟩
  · exact ⟨20, rfl, by omega, by omega, fun _ => by omega, fun z => absurd z (by decide)⟩
  · exact ⟨20, rfl, by omega, by omega, fun _ => by omega, fun z => absurd z (by decide)⟩
  · exact ⟨60, rfl, by omega, by omega, (fun z => absurd rfl z), fun z => absurd z (by decide)⟩
/-- so many rows of chance -/
theorem pickN {x y so : Int} (A B : Int) (x0 : 0 ≤ x) (x1 : x < A) (y0 : 0 ≤ y) (y1 : y < B) : ∃ n : Nat, atI [V.int x, V.int y] (if decide (V.int so = V.int 5) = true then 1 else 0) = some (.int (n : Int)) ∧ (so = 5 → (n : Int) < B) ∧ (so ≠ 5 → (n : Int) < A) := by
  by_cases h : so = 5
  · refine ⟨y.toNat, ?_, fun _ => by omega, fun z => absurd h z⟩
    rw [h, decide_eq_true rfl, show ((y.toNat : Nat) : Int) = y by omega]
    exact a1
  · refine ⟨x.toNat, ?_, fun z => absurd z h, fun _ => by omega⟩
    rw [decide_eq_false (fun z => h (V.int.inj z)), show ((x.toNat : Nat) : Int) = x by omega]
    exact a0

theorem beg_small {hc : Nat} {rows : List Row} (h : ∀ r ∈ rows, BegOk hc r) : ∀ r ∈ rows, r.small := fun r hr => by
  have := h r hr
  cases r <;> first | trivial | exact this.elim
theorem mix_small {n0 : Nat} {M : Int} {ex : List Row} (h : ∀ r ∈ ex, MixRow n0 M r) : ∀ r ∈ ex, r.small := fun r hr => by
  have := h r hr
  cases r <;> first | trivial | exact this.elim | exact this.2.2
theorem app_small {a b : List Row} (ha : ∀ r ∈ a, r.small) (hb : ∀ r ∈ b, r.small) : ∀ r ∈ a ++ b, r.small := fun r hr => by
  rcases List.mem_append.mp hr with h | h
  · exact ha r h
  · exact hb r h
theorem one_small {r : Row} (h : r.small) : ∀ x ∈ [r], x.small := fun x hx => by
  rw [List.mem_singleton.mp hx]
  exact h
end E1

namespace E1
open PySem PySem.Spec PyProof.Rows L2
theorem two_succ {x : Int} (h : 1 ≤ x) : two x = 2 * two (x - 1) := by
  unfold two
  have e : x.toNat = (x - 1).toNat + 1 := by omega
  rw [e, Int.pow_succ, Int.mul_comm]
theorem word_in {w : Option Int} (hw : WOk w) (st : Bool) (v : Int) : inR w (wordF w st v) = true := by
  cases w with
  | none => rfl
  | some y =>
    obtain ⟨y0, y1⟩ := hw y rfl
    have e := two_succ (x := y) (by omega)
    have r0 := two_pos (y - 1)
    show (decide (lst y ≤ if inR (some y) v = true then v else if st = true then (if v < 0 then lst y else grt y) else (v - lst y) % two y + lst y) && decide ((if inR (some y) v = true then v else if st = true then (if v < 0 then lst y else grt y) else (v - lst y) % two y + lst y) ≤ grt y)) = true
    rw [Bool.and_eq_true, decide_eq_true_eq, decide_eq_true_eq]
    by_cases c : inR (some y) v = true
    · rw [if_pos c]
      unfold inR at c
      rw [Bool.and_eq_true, decide_eq_true_eq, decide_eq_true_eq] at c
      exact c
    · rw [if_neg c]
      have m0 := Int.emod_nonneg (v - lst y) (show two y ≠ 0 by omega)
      have m1 := Int.emod_lt_of_pos (v - lst y) (show 0 < two y by omega)
      unfold lst grt at *
      rw [e] at *
      generalize two (y - 1) = t at *
      generalize (v - -t) % (2 * t) = u at *
      cases st with
      | true =>
        rw [if_pos rfl]
        split <;> omega
      | false =>
        rw [if_neg (by decide)]
        omega
theorem behind_ok {n : NetP} (ok : NetOk n) (x : Int) (st : List Int) : StOk n (n.behind (n.nums x st)) := by
  refine ⟨by unfold NetP.behind; rw [List.length_map], fun i h k e1 e2 => ?_⟩
  unfold NetP.behind at e2
  rw [List.getElem?_map, e1] at e2
  cases e2
  obtain ⟨hf, _, b, eb⟩ := ok.ho h (List.mem_of_getElem? e1)
  have e := accL_at (g := numRow n.fs n.pts x st) eb
  have e3 : (n.nums x st).getD h.l 0 = numRow n.fs n.pts x st (accL (numRow n.fs n.pts x st) (n.rows.take h.l)) (.keep h.k b) := by
    unfold NetP.nums
    rw [List.getD_eq_getElem?_getD, e]
    rfl
  show inR (frm n.fs h.k).w ((n.nums x st).getD h.l 0) = true
  rw [e3]
  have efr := frm_at (List.getElem?_eq_getElem hf)
  refine word_in ?_ _ _
  rw [efr]
  exact (ok.fo _ (List.getElem_mem hf)).wo
theorem StOk.start {n : NetP} (ok : NetOk n) : StOk n (n.holds.map (·.s)) := ⟨List.length_map .., fun i h2 k2 e1 e2 => by
  rw [List.getElem?_map, e1] at e2
  cases e2
  have hk := ok.ho h2 (List.mem_of_getElem? e1)
  have ef := List.getElem?_eq_getElem hk.1
  rw [frm_at ef]
  exact hk.2.1 _ ef⟩
theorem nums_bd {n : NetP} (ok : NetOk n) {x : Int} {st : List Int} {s : Nat} (s110 : 110 ≤ s) (hx : x.natAbs < 2 ^ 110) (hst : ∀ k ∈ st, k.natAbs < 2 ^ s) : ∀ i, i ≤ n.rows.length → ∀ k ∈ accL (numRow n.fs n.pts x st) (n.rows.take i), k.natAbs < 2 ^ (s + 600 * i) := by
  intro i
  induction i with
  | zero => intro _ k hk; cases hk
  | succ i ih =>
    intro hi k hk
    obtain ⟨r, er⟩ : ∃ r, n.rows[i]? = some r := ⟨_, List.getElem?_eq_getElem (by omega)⟩
    rw [accL_next er] at hk
    have ih' := ih (by omega)
    have lp : 0 < 2 ^ (s + 600 * i) := Nat.pow_pos (by decide)
    have wide : ∀ {y a : Nat}, y < 2 ^ a → a ≤ s + 600 * (i + 1) → y < 2 ^ (s + 600 * (i + 1)) := fun h l => up h l
    rcases List.mem_append.mp hk with hk | hk
    · exact wide (ih' k hk) (by omega)
    rw [List.mem_singleton.mp hk]
    have at' : ∀ a, ((accL (numRow n.fs n.pts x st) (n.rows.take i)).getD a 0).natAbs < 2 ^ (s + 600 * i) := fun a => getD_lt ih' lp
    have pp : ∀ a, -200 ≤ n.pts.getD a 0 ∧ n.pts.getD a 0 ≤ 200 := fun a => by
      rw [List.getD_eq_getElem?_getD]
      cases e : n.pts[a]? with
      | none => exact ⟨by decide, by decide⟩
      | some k => exact ok.po k (List.mem_of_getElem? e)
    have sums : ∀ a b sg, (sg = 1 ∨ sg = -1) → (sumN n.pts (accL (numRow n.fs n.pts x st) (n.rows.take i)) a b sg).natAbs < 2 ^ (s + 600 * (i + 1)) := fun a b sg hs => by
      obtain ⟨a0, a1⟩ := pp a
      obtain ⟨b0, b1⟩ := pp b
      unfold sumN
      have k1 : ∀ c, ((if n.pts.getD b 0 > n.pts.getD a 0 then n.pts.getD b 0 else n.pts.getD a 0) - n.pts.getD c 0).toNat < 401 := fun c => by
        obtain ⟨c0, c1⟩ := pp c
        split <;> omega
      have x1 := abs_mul_lt (at' a) (two_pow_lt (k1 a))
      have x2 := abs_mul_lt (at' b) (two_pow_lt (k1 b))
      refine wide (abs_add_lt x1 ?_) (by omega)
      rcases hs with rfl | rfl
      · rw [Int.one_mul]
        exact x2
      · rw [Int.neg_mul, Int.one_mul, Int.natAbs_neg]
        exact x2
    have ro := ok.ro i r er
    match r, ro with
    | .inn, _ => exact wide hx (by omega)
    | .old k, _ => exact wide (getD_lt hst (Nat.pow_pos (by decide))) (by omega)
    | .times f m a, h => exact wide (abs_mul_lt (show f.natAbs < 2 ^ 63 from h.1) (at' a)) (by omega)
    | .plus a b, _ => exact sums a b 1 (.inl rfl)
    | .less a b, _ => exact sums a b (-1) (.inr rfl)
    | .move m a, _ => exact wide (at' a) (by omega)
    | .keep f a, h =>
      have fo : (frm n.fs f).Ok := by
        rw [frm_at (List.getElem?_eq_getElem h.1)]
        exact ok.fo _ (List.getElem_mem _)
      have st1 := steps_lt (m := (frm n.fs f).m) (at' a) fo.p0 fo.p1 (pp a).1 (pp a).2
      show (wordF (frm n.fs f).w (frm n.fs f).st (stepsAt (frm n.fs f).pt (frm n.fs f).m _ (n.pts.getD a 0))).natAbs < _
      rcases word_abs (frm n.fs f).w (frm n.fs f).st (stepsAt (frm n.fs f).pt (frm n.fs f).m ((accL (numRow n.fs n.pts x st) (n.rows.take i)).getD a 0) (n.pts.getD a 0)) fo.wo with h2 | h2
      · exact wide (Nat.lt_of_le_of_lt h2 st1) (by omega)
      · exact wide h2 (by omega)

theorem accV {g : List Int → Row → Int} {rows : List Row} {i : Nat} {r : Row} (e : rows[i]? = some r) : (accL g rows).getD i 0 = g ((accL g rows).take i) r := by
  rw [List.getD_eq_getElem?_getD, accL_at e, accL_take]
  rfl
theorem getD_take {l : List Int} {i a : Nat} (h : a < i) : (l.take i).getD a 0 = l.getD a 0 := by
  rw [List.getD_eq_getElem?_getD, List.getD_eq_getElem?_getD, List.getElem?_take, if_pos h]


/-! ### digits -1, 0, 1 -/
def dg (n : Int) : Int := if n % 2 = 0 then 0 else 2 - n % 4
theorem dg_half {n : Int} (h : n ≠ 0) : ((n - dg n) / 2).natAbs < n.natAbs := by
  unfold dg
  split <;> omega
def naf (n : Int) : List Int := if h : n = 0 then [] else dg n :: naf ((n - dg n) / 2)
termination_by n.natAbs
decreasing_by exact dg_half h
theorem naf_zero : naf 0 = [] := by
  unfold naf
  rfl
theorem naf_ne {n : Int} (h : n ≠ 0) : naf n = dg n :: naf ((n - dg n) / 2) := by
  rw [naf, dif_neg h]
theorem naf_len (k : Nat) : ∀ n : Int, n.natAbs ≤ 2 ^ k → (naf n).length ≤ k + 1 := by
  induction k with
  | zero =>
    intro n h
    by_cases e : n = 0
    · rw [e, naf_zero]
      exact Nat.zero_le _
    · rw [naf_ne e]
      have : (n - dg n) / 2 = 0 := by
        have h1 : n.natAbs ≤ 1 := h
        unfold dg
        split <;> omega
      rw [this, naf_zero]
      exact Nat.le_refl _
  | succ k ih =>
    intro n h
    by_cases e : n = 0
    · rw [e, naf_zero]
      exact Nat.zero_le _
    · rw [naf_ne e]
      have h1 : n.natAbs ≤ 2 * 2 ^ k := by
        rw [Nat.pow_succ] at h
        omega
      have : ((n - dg n) / 2).natAbs ≤ 2 ^ k := by
        unfold dg
        split <;> omega
      have := ih _ this
      rw [List.length_cons]
      omega
theorem dg_range (n : Int) : -1 ≤ dg n ∧ dg n ≤ 1 := by
  unfold dg
  split <;> omega
theorem naf_range (k : Nat) : ∀ (n x : Int), (naf n)[k]? = some x → -1 ≤ x ∧ x ≤ 1 := by
  induction k with
  | zero =>
    intro n x h
    by_cases e : n = 0
    · rw [e, naf_zero] at h
      cases h
    · rw [naf_ne e] at h
      cases h
      exact dg_range n
  | succ k ih =>
    intro n x h
    by_cases e : n = 0
    · rw [e, naf_zero] at h
      cases h
    · rw [naf_ne e] at h
      exact ih _ x h
theorem naf_apart (k : Nat) : ∀ (n x y : Int), (naf n)[k]? = some x → (naf n)[k + 1]? = some y → x = 0 ∨ y = 0 := by
  induction k with
  | zero =>
    intro n x y h g
    by_cases e : n = 0
    · rw [e, naf_zero] at h
      cases h
    · rw [naf_ne e] at h g
      cases h
      have g2 : (naf ((n - dg n) / 2))[0]? = some y := g
      by_cases e2 : (n - dg n) / 2 = 0
      · rw [e2, naf_zero] at g2
        cases g2
      · rw [naf_ne e2] at g2
        cases g2
        by_cases c : n % 2 = 0
        · left
          unfold dg
          rw [if_pos c]
        · right
          have d1 : dg n = 2 - n % 4 := by
            unfold dg
            rw [if_neg c]
          have : (n - dg n) / 2 % 2 = 0 := by
            rw [d1]
            omega
          unfold dg at this ⊢
          rw [if_pos this]
  | succ k ih =>
    intro n x y h g
    by_cases e : n = 0
    · rw [e, naf_zero] at h
      cases h
    · rw [naf_ne e] at h g
      exact ih _ x y h g
def sumD : List Int → Int
  | [] => 0
  | d :: t => d + 2 * sumD t
theorem dg_even (n : Int) : (n - dg n) % 2 = 0 := by
  unfold dg
  split <;> omega
theorem sumD_naf_k (k : Nat) : ∀ n : Int, n.natAbs ≤ k → sumD (naf n) = n := by
  induction k with
  | zero =>
    intro n h
    have e : n = 0 := by omega
    rw [e, naf_zero]
    rfl
  | succ k ih =>
    intro n h
    by_cases e : n = 0
    · rw [e, naf_zero]
      rfl
    · rw [naf_ne e]
      have := dg_half e
      have i := ih ((n - dg n) / 2) (by omega)
      show dg n + 2 * sumD (naf ((n - dg n) / 2)) = n
      rw [i]
      have := dg_even n
      omega
theorem sumD_naf (n : Int) : sumD (naf n) = n := sumD_naf_k _ n (Nat.le_refl _)
theorem naf_nil {n : Int} (h : naf n = []) : n = 0 := by
  rw [← sumD_naf n, h]
  rfl
theorem naf_last_k (k : Nat) : ∀ n : Int, n.natAbs ≤ k → n ≠ 0 → (naf n)[(naf n).length - 1]? ≠ some 0 ∧ 0 < (naf n).length := by
  induction k with
  | zero =>
    intro n h e
    exact absurd (by omega) e
  | succ k ih =>
    intro n h e
    have hh := dg_half e
    rw [naf_ne e]
    by_cases e2 : (n - dg n) / 2 = 0
    · rw [e2, naf_zero]
      refine ⟨fun z => ?_, Nat.zero_lt_one⟩
      have z2 : dg n = 0 := by
        have : (dg n :: ([] : List Int))[([dg n] : List Int).length - 1]? = some (dg n) := rfl
        rw [this] at z
        exact Option.some.inj z
      have := dg_even n
      omega
    · obtain ⟨i1, i2⟩ := ih _ (by omega) e2
      refine ⟨?_, by rw [List.length_cons]; omega⟩
      rw [List.length_cons, show (naf ((n - dg n) / 2)).length + 1 - 1 = ((naf ((n - dg n) / 2)).length - 1) + 1 by omega, List.getElem?_cons_succ]
      exact i1
theorem naf_last {n : Int} (h : n ≠ 0) : (naf n)[(naf n).length - 1]? ≠ some 0 ∧ 0 < (naf n).length := naf_last_k _ n (Nat.le_refl _) h
/-! ### nets without times -/
theorem two_add {a b : Int} (ha : 0 ≤ a) (hb : 0 ≤ b) : two (a + b) = two a * two b := by
  unfold two
  rw [Int.toNat_add ha hb, Int.pow_add]
theorem two_nil : two 0 = 1 := rfl
theorem f_scale (m : Mn) {t b c : Int} (hb : 0 < b) (hc : 0 < c) : m.f (t * c) (b * c) = m.f t b := by
  have dv : ∀ x y : Int, (x * c) / (y * c) = x / y := fun x y => Int.mul_ediv_mul_of_pos_left x y hc
  have pos : t * c > 0 ↔ t > 0 := ⟨fun h => Int.pos_of_mul_pos_left h hc, fun h => Int.mul_pos h hc⟩
  have half : ∀ s, fHalf (s * c) (b * c) = fHalf s b := fun s => by
    unfold fHalf
    rw [show 2 * (s * c) + b * c = (2 * s + b) * c by rw [Int.add_mul, Int.mul_assoc], show 2 * (b * c) = 2 * b * c by rw [Int.mul_assoc], dv]
  have dn : fDown (t * c) (b * c) = fDown t b := dv t b
  have up' : fUp (t * c) (b * c) = fUp t b := by
    unfold fUp
    rw [show -(t * c) = -t * c by rw [Int.neg_mul], dv]
  cases m with
  | down => exact dn
  | up => exact up'
  | inn =>
    show (if t * c > 0 then fDown (t * c) (b * c) else fUp (t * c) (b * c)) = if t > 0 then fDown t b else fUp t b
    rw [dn, up']
    simp only [pos]
  | out =>
    show (if t * c > 0 then fUp (t * c) (b * c) else fDown (t * c) (b * c)) = if t > 0 then fUp t b else fDown t b
    rw [dn, up']
    simp only [pos]
  | half => exact half t
  | even =>
    show fEven (t * c) (b * c) = fEven t b
    unfold fEven
    rw [half]
    have e : (2 * (fHalf t b * (b * c) - t * c) = b * c) ↔ (2 * (fHalf t b * b - t) = b) := by
      rw [show 2 * (fHalf t b * (b * c) - t * c) = 2 * (fHalf t b * b - t) * c by rw [← Int.mul_assoc, ← Int.sub_mul, Int.mul_assoc]]
      exact ⟨fun h => Int.eq_of_mul_eq_mul_right (by omega) h, fun h => by rw [h]⟩
    simp only [e]
  | far =>
    show (if t * c > 0 then fHalf (t * c) (b * c) else -(fHalf (-(t * c)) (b * c))) = if t > 0 then fHalf t b else -(fHalf (-t) b)
    rw [half, show -(t * c) = -t * c by rw [Int.neg_mul], half]
    simp only [pos]
theorem f_one (m : Mn) (t : Int) : m.f t 1 = t := by
  have dn : fDown t 1 = t := Int.ediv_one t
  have up' : fUp t 1 = t := by
    unfold fUp
    rw [Int.ediv_one, Int.neg_neg]
  have half : ∀ s : Int, fHalf s 1 = s := fun s => by
    unfold fHalf
    omega
  cases m with
  | down => exact dn
  | up => exact up'
  | inn =>
    show (if t > 0 then fDown t 1 else fUp t 1) = t
    rw [dn, up', ite_self]
  | out =>
    show (if t > 0 then fUp t 1 else fDown t 1) = t
    rw [dn, up', ite_self]
  | half => exact half t
  | even =>
    show fEven t 1 = t
    unfold fEven
    rw [half, if_neg (by omega)]
  | far =>
    show (if t > 0 then fHalf t 1 else -(fHalf (-t) 1)) = t
    rw [half, half, Int.neg_neg, ite_self]
/-- worth, over a point far out -/
def Wh (K x p : Int) : Int := x * two (K - p)
theorem wh_cancel {K x y p : Int} (h : Wh K x p = Wh K y p) : x = y := Int.eq_of_mul_eq_mul_right (by have := two_pos (K - p); omega) h
theorem wh_down {K x y p q : Int} (pq : p ≤ q) (hq : q ≤ K) (h : Wh K x p = Wh K y q) : y = x * two (q - p) := by
  unfold Wh at h
  rw [show K - p = (q - p) + (K - q) by omega, two_add (by omega) (by omega), ← Int.mul_assoc] at h
  exact (Int.eq_of_mul_eq_mul_right (by have := two_pos (K - q); omega) h).symm
theorem steps_low {pt x p q : Int} (m : Mn) (pq : p ≤ q) : stepsAt pt m (x * two (q - p)) q = stepsAt pt m x p := by
  have P : ∀ a : Int, (2 : Int) ^ a.toNat = two a := fun _ => rfl
  unfold stepsAt
  rw [P, P, P, P]
  by_cases c1 : q ≤ pt
  · rw [if_pos c1, if_pos (by omega), Int.mul_assoc, ← two_add (by omega) (by omega), show q - p + (pt - q) = pt - p by omega]
  · rw [if_neg c1]
    by_cases c2 : p ≤ pt
    · rw [if_pos c2, show q - p = (pt - p) + (q - pt) by omega, two_add (by omega) (by omega), ← Int.mul_assoc]
      have := f_scale m (t := x * two (pt - p)) (b := 1) (c := two (q - pt)) (by decide) (two_pos _)
      rw [Int.one_mul] at this
      rw [this, f_one]
    · rw [if_neg c2, show q - pt = (p - pt) + (q - p) by omega, two_add (by omega) (by omega)]
      exact f_scale m (two_pos _) (two_pos _)
theorem steps_wh {K pt x y p q : Int} (m : Mn) (hp : p ≤ K) (hq : q ≤ K) (h : Wh K x p = Wh K y q) : stepsAt pt m x p = stepsAt pt m y q := by
  rcases Int.le_total p q with c | c
  · rw [wh_down c hq h, steps_low m c]
  · rw [wh_down c hp h.symm, steps_low m c]
theorem wh_sum {K p : Int} {pts nums : List Int} {a b : Nat} {sg : Int} (hp : p = if pts.getD b 0 > pts.getD a 0 then pts.getD b 0 else pts.getD a 0) (hK : p ≤ K) : Wh K (sumN pts nums a b sg) p = Wh K (nums.getD a 0) (pts.getD a 0) + sg * Wh K (nums.getD b 0) (pts.getD b 0) := by
  unfold sumN Wh
  have P : ∀ a : Int, (2 : Int) ^ a.toNat = two a := fun _ => rfl
  dsimp only
  rw [← hp, P, P]
  have e1 : two (K - pts.getD a 0) = two (p - pts.getD a 0) * two (K - p) := by
    rw [← two_add (by split at hp <;> omega) (by omega)]
    congr 1
    omega
  have e2 : two (K - pts.getD b 0) = two (p - pts.getD b 0) * two (K - p) := by
    rw [← two_add (by split at hp <;> omega) (by omega)]
    congr 1
    omega
  rw [e1, e2, Int.add_mul, Int.mul_assoc, Int.mul_assoc, Int.mul_assoc]
/-- the row again, its rows at their places -/
def renR (pl : List Nat) : Row → Row
  | .times f m a => .times f m (pl.getD a 0)
  | .plus a b => .plus (pl.getD a 0) (pl.getD b 0)
  | .less a b => .less (pl.getD a 0) (pl.getD b 0)
  | .move m a => .move m (pl.getD a 0)
  | .keep f a => .keep f (pl.getD a 0)
  | r => r
/-- the rows of the digits, behind the nought -/
def putD (m a : Nat) : List Row → Nat → List Int → List Row
  | out, _, [] => out
  | out, k, d :: ds => putD m a (if d = 0 then out else out ++ [.move ((k : Int) - (m : Int)) a, if d = 1 then .plus (out.length - 1) out.length else .less (out.length - 1) out.length]) (k + 1) ds
def outT (out : List Row) (pl : List Nat) : Row → List Row
  | .times f m a => putD m (pl.getD a 0) (out ++ [.less (pl.getD a 0) (pl.getD a 0)]) 0 (naf f)
  | r => out ++ [renR pl r]
def stepT (s : List Row × List Nat) (r : Row) : List Row × List Nat := (outT s.1 s.2 r, s.2 ++ [(outT s.1 s.2 r).length - 1])
/-- the rows that take the place of these, and where each stands now -/
def spread (rows : List Row) : List Row × List Nat := rows.foldl stepT ([], [])
theorem putD_pre (m a : Nat) : ∀ (ds : List Int) (out : List Row) (k : Nat), ∃ t, putD m a out k ds = out ++ t
  | [], out, _ => ⟨[], (List.append_nil _).symm⟩
  | d :: ds, out, k => by
    unfold putD
    by_cases c : d = 0
    · rw [if_pos c]
      exact putD_pre m a ds out (k + 1)
    · rw [if_neg c]
      obtain ⟨t, e⟩ := putD_pre m a ds (out ++ [.move ((k : Int) - (m : Int)) a, if d = 1 then .plus (out.length - 1) out.length else .less (out.length - 1) out.length]) (k + 1)
      exact ⟨_, by rw [e, List.append_assoc]⟩
theorem outT_pre (out : List Row) (pl : List Nat) (r : Row) : ∃ t, outT out pl r = out ++ t := by
  unfold outT
  split
  · obtain ⟨t, e⟩ := putD_pre _ _ _ _ _
    exact ⟨_, by rw [e, List.append_assoc]⟩
  · exact ⟨_, rfl⟩
theorem outT_pos (out : List Row) (pl : List Nat) (r : Row) : out.length < (outT out pl r).length := by
  unfold outT
  split
  · obtain ⟨t, e⟩ := putD_pre _ _ _ _ _
    rw [e, List.length_append, List.length_append, List.length_singleton]
    omega
  · rw [List.length_append, List.length_singleton]
    omega
theorem spread_next {rows : List Row} {i : Nat} {r : Row} (h : rows[i]? = some r) : spread (rows.take (i + 1)) = stepT (spread (rows.take i)) r := by
  unfold spread
  rw [List.take_add_one, h, Option.toList_some, List.foldl_append]
  rfl
theorem spread_pre (a : List Row) : ∀ b : List Row, (∃ t, (spread (a ++ b)).1 = (spread a).1 ++ t) ∧ ∃ t, (spread (a ++ b)).2 = (spread a).2 ++ t := by
  have key : ∀ (b : List Row) (s : List Row × List Nat), (∃ t, (b.foldl stepT s).1 = s.1 ++ t) ∧ ∃ t, (b.foldl stepT s).2 = s.2 ++ t := by
    intro b
    induction b with
    | nil => exact fun s => ⟨⟨[], (List.append_nil _).symm⟩, ⟨[], (List.append_nil _).symm⟩⟩
    | cons r b ih =>
      intro s
      obtain ⟨⟨t, e⟩, ⟨t2, e2⟩⟩ := ih (stepT s r)
      obtain ⟨u, eu⟩ := outT_pre s.1 s.2 r
      refine ⟨⟨u ++ t, ?_⟩, ⟨((outT s.1 s.2 r).length - 1) :: t2, ?_⟩⟩
      · rw [List.foldl_cons, e, ← List.append_assoc, ← eu]
        rfl
      · rw [List.foldl_cons, e2]
        exact List.append_assoc ..
  intro b
  unfold spread
  rw [List.foldl_append]
  exact key b _
theorem spread_len {rows : List Row} : ∀ i, i ≤ rows.length → (spread (rows.take i)).2.length = i
  | 0, _ => rfl
  | i + 1, h => by
    rw [spread_next (List.getElem?_eq_getElem (show i < rows.length by omega))]
    unfold stepT
    rw [List.length_append, spread_len i (by omega)]
    rfl
section
variable {rows : List Row}
theorem spread_take (i : Nat) : (∃ t, (spread rows).1 = (spread (rows.take i)).1 ++ t) ∧ ∃ t, (spread rows).2 = (spread (rows.take i)).2 ++ t := by
  have := spread_pre (rows.take i) (rows.drop i)
  rwa [List.take_append_drop] at this
theorem getD_preN {l t : List Nat} {k : Nat} (h : k < l.length) : (l ++ t).getD k 0 = l.getD k 0 := by
  rw [List.getD_eq_getElem?_getD, List.getD_eq_getElem?_getD, List.getElem?_append_left h]
theorem place_pre {i a : Nat} (hi : i ≤ rows.length) (h : a < i) : (spread (rows.take i)).2.getD a 0 = (spread rows).2.getD a 0 := by
  obtain ⟨_, t, e⟩ := spread_take (rows := rows) i
  rw [e, getD_preN (by rw [spread_len i hi]; exact h)]
theorem place_at {i : Nat} {r : Row} (e : rows[i]? = some r) : (spread rows).2.getD i 0 = (outT (spread (rows.take i)).1 (spread (rows.take i)).2 r).length - 1 := by
  have il := (List.getElem?_eq_some_iff.mp e).1
  rw [← place_pre (i := i + 1) (by omega) (Nat.lt_succ_self i), spread_next e]
  show (_ ++ [_]).getD i 0 = _
  have l := spread_len (rows := rows) i (by omega)
  rw [List.getD_eq_getElem?_getD, List.getElem?_append_right (by omega), l, Nat.sub_self]
  rfl
theorem outT_in {i : Nat} {r : Row} (e : rows[i]? = some r) : ∃ t, (spread rows).1 = outT (spread (rows.take i)).1 (spread (rows.take i)).2 r ++ t := by
  obtain ⟨⟨t, et⟩, _⟩ := spread_take (rows := rows) (i + 1)
  rw [spread_next e] at et
  exact ⟨t, et⟩
/-- where a row stands now, it stands among the rows made till then -/
theorem place_lt {i a : Nat} (hi : i ≤ rows.length) (h : a < i) : (spread rows).2.getD a 0 < (spread (rows.take i)).1.length := by
  have er := List.getElem?_eq_getElem (show a < rows.length by omega)
  rw [place_at er]
  have p := outT_pos (spread (rows.take a)).1 (spread (rows.take a)).2 rows[a]
  have e2 : (rows.take i)[a]? = some rows[a] := by rw [List.getElem?_take, if_pos h, er]
  obtain ⟨t, et⟩ := outT_in (rows := rows.take i) e2
  rw [List.take_take, Nat.min_eq_left (by omega)] at et
  rw [et, List.length_append]
  omega
end

theorem naf_digits (n : Int) : ∀ d ∈ naf n, -1 ≤ d ∧ d ≤ 1 := fun d hd => by
  obtain ⟨k, e⟩ := List.getElem?_of_mem hd
  exact naf_range k n d e
section
variable {en : Int} {hp fp : List Int} {fs : List FormP} {x : Int} {st : List Int} {F : List Row}
/-- what a row's number is worth, among the rows F -/
def WT (en : Int) (hp fp : List Int) (fs : List FormP) (x : Int) (st : List Int) (F : List Row) (j : Nat) : Int :=
  Wh 1000 ((accL (numRow fs (ptsOf en hp fp F) x st) F).getD j 0) ((ptsOf en hp fp F).getD j 0)
theorem fin_pt {j : Nat} {r : Row} (e : F[j]? = some r) : (ptsOf en hp fp F).getD j 0 = rowPt en hp fp ((ptsOf en hp fp F).take j) r := accV e
theorem fin_num {j : Nat} {r : Row} (e : F[j]? = some r) : (accL (numRow fs (ptsOf en hp fp F) x st) F).getD j 0 = numRow fs (ptsOf en hp fp F) x st ((accL (numRow fs (ptsOf en hp fp F) x st) F).take j) r := accV e
theorem sum_take {pts nums : List Int} {j a b : Nat} {sg : Int} (ha : a < j) (hb : b < j) : sumN pts (nums.take j) a b sg = sumN pts nums a b sg := by
  unfold sumN
  rw [getD_take ha, getD_take hb]
/-- the worth of a sum's row -/
theorem WT_sum {j a b : Nat} {sg : Int} (hr : (sg = 1 ∧ F[j]? = some (.plus a b)) ∨ (sg = -1 ∧ F[j]? = some (.less a b))) (ha : a < j) (hb : b < j) (bd : (ptsOf en hp fp F).getD j 0 ≤ 200) :
    WT en hp fp fs x st F j = WT en hp fp fs x st F a + sg * WT en hp fp fs x st F b := by
  unfold WT
  have hp' : (ptsOf en hp fp F).getD j 0 = if (ptsOf en hp fp F).getD b 0 > (ptsOf en hp fp F).getD a 0 then (ptsOf en hp fp F).getD b 0 else (ptsOf en hp fp F).getD a 0 := by
    rcases hr with ⟨_, e⟩ | ⟨_, e⟩
    · rw [fin_pt e]
      show (if ((ptsOf en hp fp F).take j).getD b 0 > ((ptsOf en hp fp F).take j).getD a 0 then ((ptsOf en hp fp F).take j).getD b 0 else ((ptsOf en hp fp F).take j).getD a 0) = _
      rw [getD_take ha, getD_take hb]
    · rw [fin_pt e]
      show (if ((ptsOf en hp fp F).take j).getD b 0 > ((ptsOf en hp fp F).take j).getD a 0 then ((ptsOf en hp fp F).take j).getD b 0 else ((ptsOf en hp fp F).take j).getD a 0) = _
      rw [getD_take ha, getD_take hb]
  have hn : (accL (numRow fs (ptsOf en hp fp F) x st) F).getD j 0 = sumN (ptsOf en hp fp F) (accL (numRow fs (ptsOf en hp fp F) x st) F) a b sg := by
    rcases hr with ⟨rfl, e⟩ | ⟨rfl, e⟩
    · rw [fin_num e]
      exact sum_take ha hb
    · rw [fin_num e]
      exact sum_take ha hb
  rw [hn]
  exact wh_sum hp' (by omega)
/-- the worth of a moved row -/
theorem WT_move {j a : Nat} {m : Int} (e : F[j]? = some (.move m a)) (ha : a < j) : WT en hp fp fs x st F j = (accL (numRow fs (ptsOf en hp fp F) x st) F).getD a 0 * two (1000 - ((ptsOf en hp fp F).getD a 0 - m)) := by
  unfold WT
  rw [fin_num e, fin_pt e]
  show Wh 1000 (((accL (numRow fs (ptsOf en hp fp F) x st) F).take j).getD a 0) (((ptsOf en hp fp F).take j).getD a 0 - m) = _
  rw [getD_take ha, getD_take ha]
  rfl
theorem two_up {e : Int} (h : 0 ≤ e) : two (e + 1) = two e * 2 := by
  rw [two_add h (by decide)]
  rfl
theorem putD_val (bd : ∀ j, j < F.length → -200 ≤ (ptsOf en hp fp F).getD j 0 ∧ (ptsOf en hp fp F).getD j 0 ≤ 200) {m a : Nat} (m64 : m ≤ 64) :
    ∀ (ds : List Int) (out : List Row) (k : Nat), (∀ d ∈ ds, -1 ≤ d ∧ d ≤ 1) → (∃ t, F = putD m a out k ds ++ t) → 0 < out.length → a < out.length →
    WT en hp fp fs x st F ((putD m a out k ds).length - 1) = WT en hp fp fs x st F (out.length - 1) + (accL (numRow fs (ptsOf en hp fp F) x st) F).getD a 0 * two (1000 - (ptsOf en hp fp F).getD a 0 - (m : Int) + (k : Int)) * sumD ds
  | [], out, k, _, _, _, _ => by
    show WT en hp fp fs x st F (out.length - 1) = _ + _ * 0
    rw [Int.mul_zero, Int.add_zero]
  | d :: ds, out, k, hd, hF, h0, ha => by
    have hd1 := hd d List.mem_cons_self
    have hds : ∀ d ∈ ds, -1 ≤ d ∧ d ≤ 1 := fun d h => hd d (List.mem_cons_of_mem _ h)
    obtain ⟨t, et⟩ := hF
    have aF : a < F.length := by
      obtain ⟨u, eu⟩ := putD_pre m a (d :: ds) out k
      rw [et, eu, List.length_append, List.length_append]
      omega
    have bq := bd a aF
    have up1 : two (1000 - (ptsOf en hp fp F).getD a 0 - (m : Int) + ((k + 1 : Nat) : Int)) = two (1000 - (ptsOf en hp fp F).getD a 0 - (m : Int) + (k : Int)) * 2 := by
      rw [show 1000 - (ptsOf en hp fp F).getD a 0 - (m : Int) + ((k + 1 : Nat) : Int) = 1000 - (ptsOf en hp fp F).getD a 0 - (m : Int) + (k : Int) + 1 by omega]
      exact two_up (by omega)
    show WT en hp fp fs x st F ((putD m a (if d = 0 then out else _) (k + 1) ds).length - 1) = _ + _ * (d + 2 * sumD ds)
    by_cases c : d = 0
    · rw [if_pos c]
      have e2 : F = putD m a out (k + 1) ds ++ t := by
        rw [et]
        conv => lhs; unfold putD
        rw [if_pos c]
      rw [putD_val bd m64 ds out (k + 1) hds ⟨t, e2⟩ h0 ha, up1, c, Int.zero_add, ← Int.mul_assoc, ← Int.mul_assoc]
    · rw [if_neg c]
      generalize ho : out ++ [.move ((k : Int) - (m : Int)) a, if d = 1 then .plus (out.length - 1) out.length else .less (out.length - 1) out.length] = out2
      have l2 : out2.length = out.length + 2 := by rw [← ho, List.length_append]; rfl
      have e2 : F = putD m a out2 (k + 1) ds ++ t := by
        rw [et]
        conv => lhs; unfold putD
        rw [if_neg c, ho]
      obtain ⟨u, eu⟩ := putD_pre m a ds out2 (k + 1)
      have eF : F = out ++ ([.move ((k : Int) - (m : Int)) a, if d = 1 then .plus (out.length - 1) out.length else .less (out.length - 1) out.length] ++ (u ++ t)) := by
        rw [e2, eu, ← ho, List.append_assoc, List.append_assoc]
      have f1 : F[out.length]? = some (.move ((k : Int) - (m : Int)) a) := by
        rw [eF, List.getElem?_append_right (Nat.le_refl _), Nat.sub_self]
        rfl
      have f2 : F[out.length + 1]? = some (if d = 1 then .plus (out.length - 1) out.length else .less (out.length - 1) out.length) := by
        rw [eF, List.getElem?_append_right (by omega), show out.length + 1 - out.length = 1 by omega]
        rfl
      have hdd : d = 1 ∨ d = -1 := by omega
      have bj := bd (out.length + 1) (List.getElem?_eq_some_iff.mp f2).1
      have s := WT_sum (en := en) (hp := hp) (fp := fp) (fs := fs) (x := x) (st := st) (F := F) (j := out.length + 1) (a := out.length - 1) (b := out.length) (sg := d) (by
        rcases hdd with rfl | rfl
        · exact .inl ⟨rfl, f2⟩
        · exact .inr ⟨rfl, f2⟩) (by omega) (by omega) bj.2
      rw [putD_val bd m64 ds out2 (k + 1) hds ⟨t, e2⟩ (by omega) (by omega), l2, show out.length + 2 - 1 = out.length + 1 by omega, s, WT_move f1 ha, up1, show 1000 - ((ptsOf en hp fp F).getD a 0 - ((k : Int) - (m : Int))) = 1000 - (ptsOf en hp fp F).getD a 0 - (m : Int) + (k : Int) by omega]
      rw [← Int.mul_assoc ((accL (numRow fs (ptsOf en hp fp F) x st) F).getD a 0)]
      generalize (accL (numRow fs (ptsOf en hp fp F) x st) F).getD a 0 * two (1000 - (ptsOf en hp fp F).getD a 0 - (m : Int) + (k : Int)) = B at *
      rw [Int.mul_add, Int.mul_comm d B, Int.add_assoc, Int.mul_assoc B 2]
end
/-- a net whose times rows are spelled -/
def NetP.plain (n : NetP) : NetP := ⟨n.fs, n.en, (spread n.rows).1, n.holds.map fun h => ⟨h.k, h.s, (spread n.rows).2.getD h.l 0⟩, (spread n.rows).2.getD n.out 0⟩
section
variable {n : NetP}
theorem plain_pts_eq : hpts n.plain = hpts n := by
  show (n.holds.map _).map _ = n.holds.map _
  rw [List.map_map]
  rfl
/-- a row that is no times row stands at its place -/
theorem plain_row {i : Nat} {r : Row} (ok : NetOk n) (e : n.rows[i]? = some r) (nt : r.kd ≠ .times) : (spread n.rows).1[(spread n.rows).2.getD i 0]? = some (renR ((spread n.rows).2.take i) r) := by
  have il := (List.getElem?_eq_some_iff.mp e).1
  obtain ⟨t, et⟩ := outT_in e
  rw [place_at e, et]
  have ho : outT (spread (n.rows.take i)).1 (spread (n.rows.take i)).2 r = (spread (n.rows.take i)).1 ++ [renR (spread (n.rows.take i)).2 r] := by
    cases r with
    | times f m a => exact absurd rfl nt
    | _ => rfl
  have e2 : (spread (n.rows.take i)).2 = (spread n.rows).2.take i := by
    obtain ⟨_, t2, et2⟩ := spread_take (rows := n.rows) i
    rw [et2]
    exact (List.take_left' (spread_len i (by omega))).symm
  rw [ho, e2, List.length_append, List.length_singleton, Nat.add_sub_cancel, List.append_assoc, List.getElem?_append_right (Nat.le_refl _), Nat.sub_self]
  rfl
theorem getD_takeN {l : List Nat} {i a : Nat} (h : a < i) : (l.take i).getD a 0 = l.getD a 0 := by
  rw [List.getD_eq_getElem?_getD, List.getD_eq_getElem?_getD, List.getElem?_take, if_pos h]
theorem wh_shift {x y p q m : Int} (h : Wh 1000 x p = Wh 1000 y q) (hp : p ≤ 200) (hq : q ≤ 200) (m0 : -64 ≤ m) (m1 : m ≤ 64) : x * two (1000 - p + m) = y * two (1000 - q + m) := by
  unfold Wh at h
  have e : ∀ z r : Int, r ≤ 200 → z * two (1000 - r + m) * two (64 - m) = z * two (1000 - r) * two 64 := fun z r hr => by
    rw [Int.mul_assoc, Int.mul_assoc, ← two_add (by omega) (by omega), ← two_add (by omega) (by decide), show 1000 - r + m + (64 - m) = 1000 - r + 64 by omega]
  refine Int.eq_of_mul_eq_mul_right (a := two (64 - m)) (by have := two_pos (64 - m); omega) ?_
  rw [e x p hp, e y q hq, h]
theorem pts_bd {en : Int} {hp fp : List Int} {rows : List Row} (h : ∀ p ∈ ptsOf en hp fp rows, -200 ≤ p ∧ p ≤ 200) (j : Nat) : -200 ≤ (ptsOf en hp fp rows).getD j 0 ∧ (ptsOf en hp fp rows).getD j 0 ≤ 200 := by
  rw [List.getD_eq_getElem?_getD]
  cases e : (ptsOf en hp fp rows)[j]? with
  | none => exact ⟨by decide, by decide⟩
  | some k => exact h k (List.mem_of_getElem? e)
/-- each row is worth the same at its place -/
theorem plain_val (ok : NetOk n) (bd : ∀ p ∈ ptsOf (fpt n.fs n.en) (hpts n) (n.fs.map (·.pt)) (spread n.rows).1, -200 ≤ p ∧ p ≤ 200) (x : Int) (st : List Int) :
    ∀ i, i < n.rows.length → WT (fpt n.fs n.en) (hpts n) (n.fs.map (·.pt)) n.fs x st n.rows i = WT (fpt n.fs n.en) (hpts n) (n.fs.map (·.pt)) n.fs x st (spread n.rows).1 ((spread n.rows).2.getD i 0) := by
  intro i
  induction i using Nat.strongRecOn with
  | ind i ih =>
    intro il
    have er := List.getElem?_eq_getElem il
    have ro := ok.ro i _ er
    have lt : ∀ a, a < i → (spread n.rows).2.getD a 0 < (spread (n.rows.take i)).1.length := fun a ha => place_lt (by omega) ha
    have ih' : ∀ a, a < i → _ := fun a ha => ih a ha (by omega)
    have bn : ∀ j, -200 ≤ (ptsOf (fpt n.fs n.en) (hpts n) (n.fs.map (·.pt)) n.rows).getD j 0 ∧ (ptsOf (fpt n.fs n.en) (hpts n) (n.fs.map (·.pt)) n.rows).getD j 0 ≤ 200 := pts_bd ok.po
    have bF := pts_bd bd
    have pl : (n.rows[i]).kd ≠ .times → (spread n.rows).1[(spread n.rows).2.getD i 0]? = some (renR ((spread n.rows).2.take i) n.rows[i]) ∧ (spread n.rows).2.getD i 0 = (spread (n.rows.take i)).1.length := fun nt => by
      refine ⟨plain_row ok er nt, ?_⟩
      rw [place_at er]
      have ho : outT (spread (n.rows.take i)).1 (spread (n.rows.take i)).2 n.rows[i] = (spread (n.rows.take i)).1 ++ [renR (spread (n.rows.take i)).2 n.rows[i]] := by
        generalize n.rows[i] = r at *
        cases r with
        | times f m a => exact absurd rfl nt
        | _ => rfl
      rw [ho, List.length_append, List.length_singleton, Nat.add_sub_cancel]
    have tk : ∀ a, a < i → ((spread n.rows).2.take i).getD a 0 = (spread n.rows).2.getD a 0 := fun a ha => getD_takeN ha
    have plT : ∀ f m a, n.rows[i] = .times f m a → (spread n.rows).2.getD i 0 = (putD m ((spread n.rows).2.getD a 0) ((spread (n.rows.take i)).1 ++ [.less ((spread n.rows).2.getD a 0) ((spread n.rows).2.getD a 0)]) 0 (naf f)).length - 1 ∧ ∃ t, (spread n.rows).1 = putD m ((spread n.rows).2.getD a 0) ((spread (n.rows.take i)).1 ++ [.less ((spread n.rows).2.getD a 0) ((spread n.rows).2.getD a 0)]) 0 (naf f) ++ t := fun f m a e => by
      have ai : a < i := by rw [e] at ro; exact ro.2.2
      have ho : outT (spread (n.rows.take i)).1 (spread (n.rows.take i)).2 n.rows[i] = putD m ((spread n.rows).2.getD a 0) ((spread (n.rows.take i)).1 ++ [.less ((spread n.rows).2.getD a 0) ((spread n.rows).2.getD a 0)]) 0 (naf f) := by
        rw [e]
        show putD m ((spread (n.rows.take i)).2.getD a 0) _ 0 (naf f) = _
        rw [place_pre (by omega) ai]
      obtain ⟨t, et⟩ := outT_in er
      rw [ho] at et
      exact ⟨by rw [place_at er, ho], t, et⟩
    generalize n.rows[i] = r at *
    match r, ro with
    | .inn, _ =>
      obtain ⟨p1, _⟩ := pl (fun z => nomatch z)
      unfold WT
      rw [fin_num er, fin_num p1, fin_pt er, fin_pt p1]
      rfl
    | .old k, _ =>
      obtain ⟨p1, _⟩ := pl (fun z => nomatch z)
      unfold WT
      rw [fin_num er, fin_num p1, fin_pt er, fin_pt p1]
      rfl
    | .plus a b, h =>
      obtain ⟨p1, p2⟩ := pl (fun z => nomatch z)
      have p3 : (spread n.rows).1[(spread n.rows).2.getD i 0]? = some (.plus ((spread n.rows).2.getD a 0) ((spread n.rows).2.getD b 0)) := by
        rw [p1, ← tk a h.1, ← tk b h.2]
        rfl
      rw [WT_sum (sg := 1) (.inl ⟨rfl, er⟩) h.1 h.2 (bn i).2, WT_sum (sg := 1) (.inl ⟨rfl, p3⟩) (by rw [p2]; exact lt a h.1) (by rw [p2]; exact lt b h.2) (bF _).2, ih' a h.1, ih' b h.2]
    | .less a b, h =>
      obtain ⟨p1, p2⟩ := pl (fun z => nomatch z)
      have p3 : (spread n.rows).1[(spread n.rows).2.getD i 0]? = some (.less ((spread n.rows).2.getD a 0) ((spread n.rows).2.getD b 0)) := by
        rw [p1, ← tk a h.1, ← tk b h.2]
        rfl
      rw [WT_sum (sg := -1) (.inr ⟨rfl, er⟩) h.1 h.2 (bn i).2, WT_sum (sg := -1) (.inr ⟨rfl, p3⟩) (by rw [p2]; exact lt a h.1) (by rw [p2]; exact lt b h.2) (bF _).2, ih' a h.1, ih' b h.2]
    | .move m a, h =>
      obtain ⟨p1, p2⟩ := pl (fun z => nomatch z)
      have p3 : (spread n.rows).1[(spread n.rows).2.getD i 0]? = some (.move m ((spread n.rows).2.getD a 0)) := by
        rw [p1, ← tk a h.2]
        rfl
      have hm := h.1
      have sm : ∀ p : Int, 1000 - (p - m) = 1000 - p + m := fun p => by omega
      rw [WT_move er h.2, WT_move p3 (by rw [p2]; exact lt a h.2), sm, sm]
      exact wh_shift (ih' a h.2) (bn a).2 (bF _).2 (by omega) (by omega)
    | .keep f a, h =>
      obtain ⟨p1, p2⟩ := pl (fun z => nomatch z)
      have p3 : (spread n.rows).1[(spread n.rows).2.getD i 0]? = some (.keep f ((spread n.rows).2.getD a 0)) := by
        rw [p1, ← tk a h.2]
        rfl
      have eqv := ih' a h.2
      have ls := lt a h.2
      unfold WT at eqv ⊢
      rw [fin_num er, fin_num p3, fin_pt er, fin_pt p3]
      show Wh 1000 (wordF _ _ (stepsAt _ _ ((List.take i _).getD a 0) _)) _ = Wh 1000 (wordF _ _ (stepsAt _ _ ((List.take _ _).getD _ 0) _)) _
      rw [getD_take h.2, getD_take (show (spread n.rows).2.getD a 0 < (spread n.rows).2.getD i 0 by rw [p2]; exact ls), steps_wh (K := 1000) _ (by have := (bn a).2; omega) (by have := (bF ((spread n.rows).2.getD a 0)).2; omega) eqv]
      rfl
    | .times f m a, h =>
      obtain ⟨p1, t, et⟩ := plT f m a rfl
      have la := lt a h.2.2
      have l1 : ((spread (n.rows.take i)).1 ++ [Row.less ((spread n.rows).2.getD a 0) ((spread n.rows).2.getD a 0)]).length = (spread (n.rows.take i)).1.length + 1 := by rw [List.length_append]; rfl
      have v := putD_val (fs := n.fs) (x := x) (st := st) (fun j _ => bF j) h.2.1 (naf f) _ 0 (naf_digits f) ⟨t, et⟩ (by omega) (by omega)
      obtain ⟨u, eu⟩ := putD_pre m ((spread n.rows).2.getD a 0) (naf f) ((spread (n.rows.take i)).1 ++ [.less ((spread n.rows).2.getD a 0) ((spread n.rows).2.getD a 0)]) 0
      have f0 : (spread n.rows).1[(spread (n.rows.take i)).1.length]? = some (.less ((spread n.rows).2.getD a 0) ((spread n.rows).2.getD a 0)) := by
        rw [et, eu, List.append_assoc, List.append_assoc, List.getElem?_append_right (Nat.le_refl _), Nat.sub_self]
        rfl
      have z := WT_sum (en := fpt n.fs n.en) (hp := hpts n) (fp := n.fs.map (·.pt)) (fs := n.fs) (x := x) (st := st) (sg := -1) (.inr ⟨rfl, f0⟩) la la (bF _).2
      rw [← p1, l1, Nat.add_sub_cancel, z, sumD_naf] at v
      rw [v]
      have sh := wh_shift (m := -(m : Int)) (ih' a h.2.2) (bn a).2 (bF _).2 (by have := h.2.1; omega) (by omega)
      have e0 : WT (fpt n.fs n.en) (hpts n) (n.fs.map (·.pt)) n.fs x st n.rows i = f * ((accL (numRow n.fs (ptsOf (fpt n.fs n.en) (hpts n) (n.fs.map (·.pt)) n.rows) x st) n.rows).getD a 0 * two (1000 - (ptsOf (fpt n.fs n.en) (hpts n) (n.fs.map (·.pt)) n.rows).getD a 0 + -(m : Int))) := by
        unfold WT
        rw [fin_num er, fin_pt er]
        show Wh 1000 (f * (List.take i _).getD a 0) ((List.take i _).getD a 0 + (m : Int)) = _
        rw [getD_take h.2.2, getD_take h.2.2]
        unfold Wh
        rw [Int.mul_assoc, show ∀ p : Int, 1000 - (p + (m : Int)) = 1000 - p + -(m : Int) from fun p => by omega]
      rw [e0, sh]
      generalize (accL (numRow n.fs (ptsOf (fpt n.fs n.en) (hpts n) (n.fs.map (·.pt)) (spread n.rows).1) x st) (spread n.rows).1).getD ((spread n.rows).2.getD a 0) 0 = Y at *
      generalize (ptsOf (fpt n.fs n.en) (hpts n) (n.fs.map (·.pt)) (spread n.rows).1).getD ((spread n.rows).2.getD a 0) 0 = Q at *
      rw [show 1000 - Q - (m : Int) + ((0 : Nat) : Int) = 1000 - Q + -(m : Int) by omega]
      generalize Y * two (1000 - Q + -(m : Int)) = B at *
      rw [Int.mul_comm f B]
      omega
end
end E1

namespace E1
open PySem PySem.Spec PyProof.Rows L2

open PySem.ErrX (kP kA)
/-- what a raised BadNet holds -/
def BnAt (H : Hp) (d : Addr) (part : Str) (at' : V) : Prop := H d = some (.xd [(kP, .str part), (kA, at')])
def spLen4X (CB : Addr) : Sp := fun vs H Q E => ∃ (a : Addr) (xs : List V) (z : Str) (lo hi : Int), vs = [.ref a, .str z, .int lo, .int hi] ∧ H a = some (.lst xs) ∧ lo ≤ xs.length ∧ z.length ≤ 1000 ∧ ((xs.length : Int) ≤ hi → Q .non H) ∧ (hi < (xs.length : Int) → ∀ d, H d = none → E (.ref CB) (some d) (upd H d (.xd [(kP, .str z), (kA, .non)])))
def spCkFormsX (C CB : Addr) : Sp := fun vs H Q E => ∃ (a : Addr) (fv : List V) (fs : List FormP), vs = [.ref a] ∧ H a = some (.lst fv) ∧ FsAt C H fv fs ∧ 1 ≤ fs.length ∧ (fs.length ≤ 12 → ∀ H', Same H H' → Q .non H') ∧ (12 < fs.length → ∀ d H', Same H H' → H d = none → BnAt H' d "forms" .non → E (.ref CB) (some d) H')
def spNetInitX (C CN CB : Addr) : Sp := fun vs H Q E => ∃ (p dx fl rl hl : Addr) (n : NetP) (fv rv hv : List V), vs = [.ref p, .ref fl, .int n.en, .ref rl, .ref hl, .int n.out] ∧ H p = some (.ins CN dx []) ∧ H fl = some (.lst fv) ∧ FsAt C H fv n.fs ∧ H rl = some (.lst rv) ∧ TsAt H rv (n.rows.map Row.vs) ∧ H hl = some (.lst hv) ∧ TsAt H hv (n.holds.map Hold.vs) ∧ (n.fs.length ≤ 12 → NetOk n) ∧ 1 ≤ n.fs.length ∧
  (n.fs.length ≤ 12 → ∀ H', NetAt C CN H' p n → (∀ b o, b ≠ p → H b = some o → H' b = some o) → Q .non H') ∧ (12 < n.fs.length → ∀ d H', Same H H' → H d = none → BnAt H' d "forms" .non → E (.ref CB) (some d) H')
section
variable {X : Cx} {k j : Nat} {C : Addr} {x : Str} {ps : List Str} {dvs : List V} {sp : Sp} {e : Expr} {es : List Expr} {t : TA} {p pos : Pos} {E : XK}
def CalCX (P : Program) (w : World) (K : PySem.W.Frag) (mg : Str → Option Value) (base : Heap) (k : Nat) (x : Str) (C : Addr) (ps : List Str) (dvs : List V) (sp : Sp) : Prop :=
  ∃ (f : Addr) (fd : FuncData) (ds : List Value), Mk K C f ∧ mg x = some (.ref C) ∧ Vals dvs ds ∧ Binds K fd ps ds ∧ FnOk P w K mg base (L2.CX P w) k f fd ps sp
theorem pe_calcX (h : CalCX X.prog X.w X.K X.mg X.base k x C ps dvs sp) (hr : Room j X.A) (tk : Takes X (fun cls d _ H => E cls d H)) (ha : PA X (e :: es) t) (hle : k + 1 ≤ j := by decide) (hg : Gl X x := by rfl)
    (hdb : (x == ("__debug__" : Str)) = false := by decide) (he : starEach (e :: es) X.env = (false, eval e X.env) :: starEach es X.env := by rfl) (hpl : (backTo pos (starEach es X.env)).any (·.1) = false := by rfl) :
    PE X (.Call (.Name x p) (e :: es) [] pos) (tMake C sp dvs E t) := by
  obtain ⟨f, fd, ds, h1, h2, h3, h4, h5⟩ := h
  exact pe_make h1 h5 (hr.mono hle) hg h2 h4 h3 (passes_call tk (fun _ _ _ _ h => h)) ha hdb he hpl
end
section
variable {P : Program} {w : World} {K : PySem.W.Frag} {mg : Str → Option Value} {base : Heap}
theorem ok_check_lengthX {f : Addr} {fd : FuncData} {CB fB : Addr} (EB : PySem.ErrX.ErrC K mg "BadNet" CB) (IB : PySem.ErrX.IniOk2 P w K mg CB fB) (F : Fun K "check_length" "check_length" s_check_length f fd) (z : Zs mg) : FnOk P w K mg base (L2.CX P w) 3 f fd ["thing", "part", "least", "most"] (spLen4X CB) := by
  refine F.okX sc_check_length (fun vs H Q E h => ?_) (fun cdv A outer s H vs Q E hr h => ?_)
  · obtain ⟨a, xs, zz, lo, hi, rfl, _⟩ := h
    rfl
  · obtain ⟨a, xs, zz, lo, hi, rfl, ha, l0, zl, q, qe⟩ := h
    refine ⟨_, (pss_one (ps_if (PW.pt (pw_or (pt_not (pt_val (pe_callB call_isi (by rfl) z.isinstance (by decide +kernel) (pa_cons (pv 0) (pa_cons (pe_bltn (v := .ty "list") (by rfl) z.list (by decide +kernel) rfl) pa_nil))))) (pw_or1 (pt_not (pt_chain op_le op_le (pv 2) (pe_callB call_len_seq (by rfl) z.len PySem.boot_len (pa_cons (pv 0) pa_nil)) (pv 3)))))) (pss_one (ps_raiseErr2 rfl EB IB hr (takes_of rfl rfl rfl rfl) (by exact (pa_cons (pv 1) (pa_cons pe_non pa_nil))))) pss_nil)), ?_⟩
    refine ⟨_, rfl, _, .ty "list", _, _, true, rfl, .ty _, .base (.lst ha), kit_ty (by decide +kernel), _, rfl, iteF ⟨_, rfl, _, rfl, a, _, rfl, .inl (SqL.of ha), _, _, rfl, rfl, _, rfl, ?_⟩⟩
    refine iteC (d := true) (decide_eq_true l0) (iteT ⟨_, rfl, _, _, rfl, rfl, _, rfl, ?_⟩)
    by_cases c : (xs.length : Int) ≤ hi
    · exact iteC (d := false) (by rw [decide_eq_true c]; rfl) (iteF (q c))
    · exact iteC (d := true) (by rw [decide_eq_false c]; rfl) (iteT ⟨_, rfl, _, _, rfl, .inl (.inl ⟨_, rfl, zl⟩), .inr rfl, fun d hd => qe (by omega) d hd⟩)
theorem ok_check_formsX {f : Addr} {fd : FuncData} {C CB : Addr} (T : FTxt K mg C) (IC : IsC K mg C) (NC : NCst mg) (F : Fun K "check_forms" "check_forms" s_check_forms f fd) (z : Zs mg) (c_check_length : CalX P w K mg base 3 "check_length" ["thing", "part", "least", "most"] [] (spLen4X CB)) : FnOk P w K mg base (L2.CX P w) 4 f fd ["forms"] (spCkFormsX C CB) := by
  refine F.okX sc_check_forms (fun vs H Q E h => ?_) (fun cdv A outer s H vs Q E hr h => ?_)
  · obtain ⟨a, fv, fs, rfl, _⟩ := h
    rfl
  · obtain ⟨a, fv, fs, rfl, ha, hf, l0, q, qe⟩ := h
    refine ⟨_, (pss_cons (ps_expr (pe_calxS c_check_length hr (takes_of rfl rfl rfl rfl) (pa_cons (pv 0) (pa_cons pe_str (pa_cons pe_int (pa_cons (pe_glob (v := .int 12) (by rfl) NC.mf.choose_spec ⟨_, rfl⟩) pa_nil))))))
      (pss_one (ps_for (passes_of rfl) rfl (pi_enum (by rfl) z.enumerate (pa_cons (pv 0) pa_nil)) (pg_tup (by rfl) (pgs_cons (pg_name (i := 1) sc_check_forms.nd rfl (.inl rfl)) (pgs_cons (pg_name (i := 2) sc_check_forms.nd rfl (.inl rfl)) pgs_nil))) (pss_one (ps_if (pt_not (pt_val (pe_callB call_isi (by rfl) z.isinstance (by decide +kernel) (pa_cons (pv 2) (pa_cons (pe_glob (v := .ref C) (by rfl) IC.gC rfl) pa_nil))))) (pss_one ps_never) pss_nil))))), ?_⟩
    have ll := hf.len
    refine ⟨_, rfl, a, fv, "forms", 1, 12, rfl, ha, by omega, (by decide +kernel), fun l1 => ?_, fun l1 d hd => qe (by omega) d _ (same_new hd) hd upd_same⟩
    refine ⟨_, rfl, a, _, rfl, SqL.of ha, for_it (walk_enum (K := K) (a := a) (xs := fv)) (fun i σ H' => ∃ y3 y4 : Option V, σ = [some (.ref a), y3, y4] ∧ Same H H') ⟨none, none, rfl, Same.refl _⟩ (fun i σ H' _ hP => ?_) (fun i v σ H1 H2 hi hP hY => ?_) (fun σ H' hP => ?_)⟩
    · obtain ⟨y3, y4, rfl, s1⟩ := hP
      exact SqL.of (s1 _ _ ha)
    · obtain ⟨y3, y4, rfl, s1⟩ := hP
      obtain ⟨Tp, u, v', rfl, nT, rfl, e1, e2⟩ := hY
      cases e1
      obtain ⟨p, f, rfl, _, hp⟩ := hf.get e2
      have s2 := s1.trans (same_new (o := .tup [.int (i : Nat), .ref p]) nT)
      obtain ⟨dx, ho⟩ := (FormAt.same hp s2).ob
      refine ⟨Tp, _, rfl, SqT.of upd_same, rfl, _, _, rfl, _, _, rfl, rfl, ?_⟩
      exact ⟨_, rfl, _, .ref C, .ref C, .ref C, true, rfl, .own C, .base (.ins ho T.cl IC.ha IC.hn IC.ht IC.hm), IC.kC, _, rfl, iteF ⟨_, _, rfl, s2⟩⟩
    · obtain ⟨y3, y4, rfl, s1⟩ := hP
      exact q (by omega) _ s1
theorem ok_Net___init__X {f : Addr} {fd : FuncData} {C CN CB : Addr} (T : FTxt K mg C) (TN : NTxt K mg CN) (F : Fun K "__init__" "Net.__init__" s_Net___init__ f fd) (z : Zs mg) (c_check_forms : CalX P w K mg base 4 "check_forms" ["forms"] [] (spCkFormsX C CB)) (c_is_place : Cal P w K mg base 2 "is_place" ["thing", "many"] spPlace) (c_check_holds : Cal P w K mg base 4 "check_holds" ["holds", "forms"] (spCkHolds C)) (c_checked_points : Cal P w K mg base 5 "checked_points" ["rows", "given"] spCkPts) (c_check_links : Cal P w K mg base 3 "check_links" ["holds", "rows"] spCkLinks) : FnOk P w K mg base (L2.CX P w) 6 f fd ["self", "forms", "enters", "rows", "holds", "out"] (spNetInitX C CN CB) := by
  refine F.okX sc_Net___init__ (fun vs H Q E h => ?_) (fun cdv A outer s H vs Q E hr h => ?_)
  · obtain ⟨p, dx, fl, rl, hl, n, fv, rv, hv, rfl, _⟩ := h
    rfl
  · obtain ⟨p, dx, fl, rl, hl, n, fv, rv, hv, rfl, hp, hf, hfs, hra, hrs, hha, hhs, okq, f1, qq, qe⟩ := h
    refine ⟨_, (pss_cons (ps_expr (pe_calxS c_check_forms hr (takes_of rfl rfl rfl rfl) (pa_cons (pv 1) pa_nil)))
      (pss_cons (ps_if (pt_not (pt_val (pe_cal c_is_place hr (pa_cons (pv 2) (pa_cons (pe_callB call_len_seq (by rfl) z.len PySem.boot_len (pa_cons (pv 1) pa_nil)) pa_nil))))) (pss_one ps_never) pss_nil)
      (pss_cons (ps_expr (pe_cal c_check_holds hr (pa_cons (pv 4) (pa_cons (pv 1) pa_nil))))
      (pss_cons (ps_set (i := 6) sc_Net___init__.nd rfl (.inr rfl) (pe_lc (own := [("form", 9)]) (g := gName 9) (tt := tYes) (te := tFld K (tVar 9) "point") (by rfl) sc_Net___init__.nd (pi_list (pv 1)) (blkOk_by (own := [("form", 9)]) (N := ["self", "forms", "enters", "rows", "holds", "out", "form_points", "hold_points", "points", "form", "hold"]) (sc := defScope s_Net___init__) (by decide +kernel)) (fun _ _ _ _ _ => by exact (pg_name (i := 9) sc_Net___init__.nd rfl (.inl rfl))) (fun _ _ _ _ _ => by exact pts_nil) (fun _ _ _ _ _ => by exact (pe_fld (pv 9) rfl))))
      (pss_cons (ps_setLc (i := 7) (own := [("hold", 10)]) (g := gName 10) (tt := tYes) (te := (tOp (rIxL K) (tVar 6) (tOp (rIxT K) (tVar 10) (tC (.int 0))))) (by rfl) sc_Net___init__.nd rfl rfl (sw_true rfl rfl rfl (by decide +kernel)) (pi_list (pv 4)) (blkOk_by (own := [("hold", 10)]) (N := ["self", "forms", "enters", "rows", "holds", "out", "form_points", "hold_points", "points", "form", "hold"]) (sc := defScope s_Net___init__) (by decide +kernel)) (fun _ _ _ _ _ => by exact (pg_name (i := 10) sc_Net___init__.nd rfl (.inl rfl))) (fun _ _ _ _ _ => by exact pts_nil) (fun _ _ _ _ _ => by exact (pe_ix ix_list (pv 6) (pe_ix ix_tup (pv 10) pe_int (fun _ _ => rfl)) (fun _ _ => rfl))))
      (pss_cons (ps_set (i := 8) sc_Net___init__.nd rfl (.inl rfl) (pe_cal c_checked_points hr (pa_cons (pv 3) (pa_cons (pe_tup (pa_cons (pe_ix ix_list (pv 6) (pv 2) (fun _ _ => rfl)) (pa_cons (pv 7) (pa_cons (pv 6) pa_nil)))) pa_nil))))
      (pss_cons (ps_expr (pe_cal c_check_links hr (pa_cons (pv 4) (pa_cons (pv 3) pa_nil))))
      (pss_cons (ps_if (pt_not (pt_val (pe_cal c_is_place hr (pa_cons (pv 5) (pa_cons (pe_callB call_len_seq (by rfl) z.len PySem.boot_len (pa_cons (pv 3) pa_nil)) pa_nil))))) (pss_one ps_never) pss_nil)
      (pss_cons (ps_fld (pv 0) (pe_callTy call_list_of (by rfl) z.list (by decide +kernel) (pa_cons (pv 1) pa_nil)) rfl)
      (pss_cons (ps_fld (pv 0) (pv 2) rfl)
      (pss_cons (ps_fld (pv 0) (pe_callTy call_list_of (by rfl) z.list (by decide +kernel) (pa_cons (pv 3) pa_nil)) rfl)
      (pss_cons (ps_fld (pv 0) (pe_callTy call_list_of (by rfl) z.list (by decide +kernel) (pa_cons (pv 4) pa_nil)) rfl)
      (pss_cons (ps_fld (pv 0) (pv 5) rfl)
      (pss_one (ps_fld (pv 0) (pv 8) rfl))))))))))))))), ?_⟩
    have lf := hfs.len
    have lr := hrs.len
    have lh := hhs.len
    rw [List.length_map] at lr lh
    refine ⟨_, rfl, fl, fv, n.fs, rfl, hf, hfs, f1, fun h12 H1 s1 => ?_, fun h12 d H1 s1 hd0 hd => qe h12 d H1 s1 hd0 hd⟩
    have ok := okq h12
    have q := qq h12
    have en0 := ok.en
    have out0 := ok.out
    refine ⟨_, rfl, _, rfl, fl, _, rfl, .inl (SqL.of (s1 _ _ hf)), _, _, rfl, by omega, by omega, _, rfl, iteF ?_⟩
    refine ⟨_, rfl, _, rfl, hl, fl, hv, fv, n.fs, n.holds, rfl, s1 _ _ hha, hhs.same s1, s1 _ _ hf, hfs.same s1, ok.h2, fun h hm => ⟨(ok.ho h hm).1, (ok.ho h hm).2.1⟩, fun H2 s2 => ?_⟩
    have S2 := s1.trans s2
    refine ⟨_, rfl, fl, rfl, ⟨_, SqL.of (S2 _ _ hf)⟩, fun Da hD => ?_⟩
    refine lc_it (walk_list (K := K) (a := fl) (xs := fv)) (fun i H4 => Same H2 H4 ∧ H4 Da = some (.lst (((n.fs.take i).map (·.pt)).map V.int))) ⟨same_new hD, upd_same⟩ (fun i H4 hi hP => SqL.of (hP.1 _ _ (S2 _ _ hf))) (fun i x' H4 H5 hi hP hy => ?_) (fun H3 hP => ?_)
    · obtain ⟨s4, hD4⟩ := hP
      obtain ⟨rfl, hx⟩ := hy
      obtain ⟨fa, fm, rfl, efm, hfa⟩ := hfs.get hx
      obtain ⟨dxf, hof⟩ := (FormAt.same hfa (S2.trans s4)).ob
      refine ⟨rfl, _, rfl, fa, C, dxf, _, _, rfl, hof, T.cl, T.nP, fl_p, _, hD4, ?_, fun b' o' e' => ?_, ?_⟩
      · rw [List.length_map, List.length_map, List.length_take]
        exact sl_lt (by have := ok.f2; omega)
      · rw [upd_ne (ne_of_none e' hD)]
        exact s4 _ _ e'
      · rw [upd_same, List.take_add_one, efm, List.map_append, List.map_append]
        rfl
    obtain ⟨s3, hDa⟩ := hP
    rw [lf, List.take_length] at hDa
    have S3 := S2.trans s3
    have lfp : (n.fs.map (·.pt)).length = n.fs.length := List.length_map ..
    refine ⟨_, rfl, hl, rfl, ⟨_, SqL.of (S3 _ _ hha)⟩, fun Db hDb => ?_⟩
    refine lc_it (walk_list (K := K) (a := hl) (xs := hv)) (fun i H4 => Same H3 H4 ∧ H4 Db = some (.lst (((n.holds.take i).map fun h => fpt n.fs h.k).map V.int))) ⟨same_new hDb, upd_same⟩ (fun i H4 hi hP => SqL.of (hP.1 _ _ (S3 _ _ hha))) (fun i x' H4 H5 hi hP hy => ?_) (fun H4 hP => ?_)
    · obtain ⟨s4, hD4⟩ := hP
      obtain ⟨rfl, hx⟩ := hy
      obtain ⟨ha, xs, rfl, exs, hha'⟩ := hhs.get hx
      rw [List.getElem?_map] at exs
      obtain ⟨hh, eh, rfl⟩ := Option.map_eq_some_iff.mp exs
      have kl := (ok.ho hh (List.mem_of_getElem? eh)).1
      refine ⟨rfl, _, rfl, _, rfl, ha, _, 0, .int hh.k, rfl, rfl, SqT.of ((S3.trans s4) _ _ hha'), a0, Da, _, _, _, rfl, rfl, SqL.of (s4 _ _ hDa), ints_at (by omega), _, hD4, ?_, fun b' o' e' => ?_, ?_⟩
      · rw [List.length_map, List.length_map, List.length_take]
        exact sl_lt (by have := ok.h2; omega)
      · rw [upd_ne (ne_of_none e' hDb)]
        exact s4 _ _ e'
      · rw [upd_same, List.take_add_one, eh, List.map_append, List.map_append]
        rfl
    obtain ⟨s4, hDb'⟩ := hP
    rw [lh, List.take_length] at hDb'
    have S4 := S3.trans s4
    refine ⟨_, rfl, _, rfl, _, rfl, Da, _, _, _, rfl, rfl, SqL.of (s4 _ _ hDa), ints_at (by omega), _, rfl, _, rfl, (by show 3 ≤ sizeLine; decide), fun gv hgv => ?_⟩
    generalize hG : upd _ gv _ = G5
    obtain ⟨s5, h_gv⟩ := upd_gen hG hgv
    have S5 := S4.trans s5
    have lhp : (hpts n).length = n.holds.length := List.length_map ..
    refine ⟨rl, gv, rv, n.rows, fpt n.fs n.en, hpts n, n.fs.map FormP.pt, rfl, S5 _ _ hra, hrs.same S5, ⟨Db, Da, h_gv, s5 _ _ hDb', s5 _ _ (s4 _ _ hDa)⟩, ok.r1, ok.r2, fun i r e => by rw [lhp, lfp]; exact ok.ro i r e, ok.po, fun pl H6 s6 hpl h_pl => ?_⟩
    have S6 := S5.trans s6
    refine ⟨_, rfl, _, rfl, hl, rl, hv, rv, n.holds, n.rows, rfl, S6 _ _ hha, hhs.same S6, S6 _ _ hra, hrs.same S6, fun h hm => (ok.ho h hm).2.2, fun H7 s7 => ?_⟩
    have S7 := S6.trans s7
    replace h_pl := s7 _ _ h_pl
    refine ⟨_, rfl, _, rfl, rl, _, rfl, .inl (SqL.of (S7 _ _ hra)), _, _, rfl, by omega, by omega, _, rfl, iteF ?_⟩
    have hp0 := hp
    have n_pl : pl ≠ p := (ne_of_none (S5 _ _ hp) hpl).symm
    have nfl : fl ≠ p := ne_of hf hp (fun z => nomatch z)
    have nrl : rl ≠ p := ne_of hra hp (fun z => nomatch z)
    have nhl : hl ≠ p := ne_of hha hp (fun z => nomatch z)
    have B : SameBut p H H7 := .of S7
    replace hp := S7 _ _ hp
    clear s1 s2 s3 s4 s5 s6 s7 S2 S3 S4 S5 S6 S7 hDa hDb' h_gv hG hpl hD hDb hgv
    refine ⟨_, rfl, fl, _, rfl, .inl (SqL.of (B _ _ nfl hf)), fun f2 hf2 => ?_⟩
    have n_f2 : f2 ≠ p := (ne_of_none hp hf2).symm
    generalize hG : upd _ f2 _ = K1
    obtain ⟨s, h_f2⟩ := upd_gen hG hf2
    replace B := B.trans (.of s)
    replace hp := s _ _ hp
    replace h_pl := s _ _ h_pl
    clear hG s
    refine ⟨_, rfl, p, CN, dx, _, rfl, hp, TN.cl, TN.n_form_list, (by show 0 < 1000; decide), ?_⟩
    generalize hG : upd _ p _ = K2
    obtain ⟨s, hp'⟩ := upd_but hG
    replace B := B.trans s
    clear hp
    have hp := hp'
    clear hp'
    rw [nf0] at hp
    replace h_pl := s _ _ n_pl h_pl
    replace h_f2 := s _ _ n_f2 h_f2
    clear hG s
    refine ⟨_, rfl, _, rfl, p, CN, dx, _, rfl, hp, TN.cl, TN.n_enters_at, (by show 1 < 1000; decide), ?_⟩
    generalize hG : upd _ p _ = K3
    obtain ⟨s, hp'⟩ := upd_but hG
    replace B := B.trans s
    clear hp
    have hp := hp'
    clear hp'
    rw [nf1] at hp
    replace h_pl := s _ _ n_pl h_pl
    replace h_f2 := s _ _ n_f2 h_f2
    clear hG s
    refine ⟨_, rfl, rl, _, rfl, .inl (SqL.of (B _ _ nrl hra)), fun r2 hr2 => ?_⟩
    have n_r2 : r2 ≠ p := (ne_of_none hp hr2).symm
    generalize hG : upd _ r2 _ = K4
    obtain ⟨s, h_r2⟩ := upd_gen hG hr2
    replace B := B.trans (.of s)
    replace hp := s _ _ hp
    replace h_pl := s _ _ h_pl
    replace h_f2 := s _ _ h_f2
    clear hG s
    refine ⟨_, rfl, p, CN, dx, _, rfl, hp, TN.cl, TN.n_row_list, (by show 2 < 1000; decide), ?_⟩
    generalize hG : upd _ p _ = K5
    obtain ⟨s, hp'⟩ := upd_but hG
    replace B := B.trans s
    clear hp
    have hp := hp'
    clear hp'
    rw [nf2] at hp
    replace h_pl := s _ _ n_pl h_pl
    replace h_f2 := s _ _ n_f2 h_f2
    replace h_r2 := s _ _ n_r2 h_r2
    clear hG s
    refine ⟨_, rfl, hl, _, rfl, .inl (SqL.of (B _ _ nhl hha)), fun h2 hh2 => ?_⟩
    have n_h2 : h2 ≠ p := (ne_of_none hp hh2).symm
    generalize hG : upd _ h2 _ = K6
    obtain ⟨s, h_h2⟩ := upd_gen hG hh2
    replace B := B.trans (.of s)
    replace hp := s _ _ hp
    replace h_pl := s _ _ h_pl
    replace h_f2 := s _ _ h_f2
    replace h_r2 := s _ _ h_r2
    clear hG s
    refine ⟨_, rfl, p, CN, dx, _, rfl, hp, TN.cl, TN.n_hold_list, (by show 3 < 1000; decide), ?_⟩
    generalize hG : upd _ p _ = K7
    obtain ⟨s, hp'⟩ := upd_but hG
    replace B := B.trans s
    clear hp
    have hp := hp'
    clear hp'
    rw [nf3] at hp
    replace h_pl := s _ _ n_pl h_pl
    replace h_f2 := s _ _ n_f2 h_f2
    replace h_r2 := s _ _ n_r2 h_r2
    replace h_h2 := s _ _ n_h2 h_h2
    clear hG s
    refine ⟨_, rfl, _, rfl, p, CN, dx, _, rfl, hp, TN.cl, TN.n_out_at, (by show 4 < 1000; decide), ?_⟩
    generalize hG : upd _ p _ = K8
    obtain ⟨s, hp'⟩ := upd_but hG
    replace B := B.trans s
    clear hp
    have hp := hp'
    clear hp'
    rw [nf4] at hp
    replace h_pl := s _ _ n_pl h_pl
    replace h_f2 := s _ _ n_f2 h_f2
    replace h_r2 := s _ _ n_r2 h_r2
    replace h_h2 := s _ _ n_h2 h_h2
    clear hG s
    refine ⟨_, rfl, _, rfl, p, CN, dx, _, rfl, hp, TN.cl, TN.n_point_list, (by show 5 < 1000; decide), ?_⟩
    generalize hG : upd _ p _ = K9
    obtain ⟨s, hp'⟩ := upd_but hG
    replace B := B.trans s
    clear hp
    have hp := hp'
    clear hp'
    rw [nf5] at hp
    replace h_pl := s _ _ n_pl h_pl
    replace h_f2 := s _ _ n_f2 h_f2
    replace h_r2 := s _ _ n_r2 h_r2
    replace h_h2 := s _ _ n_h2 h_h2
    clear hG s
    exact q _ ⟨ok, dx, f2, r2, h2, pl, fv, rv, hv, hp, h_f2, FsAt.butI hfs B hp0, h_r2, hrs.mono (fun a xs e => B _ _ (ne_of e hp0 (fun z => nomatch z)) e), h_h2, hhs.mono (fun a xs e => B _ _ (ne_of e hp0 (fun z => nomatch z)) e), h_pl⟩ (fun b o nb e => B b o nb e)
end
end E1

namespace E1
open PySem PySem.Spec PyProof.Rows L2

open PySem.ErrX (kP kA)
theorem len_txt : ∀ k : Nat, k < 201 → (toString (k : Int) : String).length ≤ 1000 := by decide +kernel
theorem VFmt.nat {k : Nat} (h : k < 201) : VFmt (.int (k : Int)) := by
  refine .inr ⟨_, rfl, ?_, len_txt k h⟩
  have h1 : ((k : Int)).natAbs = k := rfl
  rw [h1]
  refine Nat.lt_of_le_of_lt (Nat.log2_le_self k) (by omega)
/-- a net, but for the room of its rows and their points -/
structure NetPre (n : NetP) : Prop where
  f1 : 1 ≤ n.fs.length
  f2 : n.fs.length ≤ 12
  fo : ∀ f ∈ n.fs, f.Ok
  en : n.en < n.fs.length
  h2 : n.holds.length ≤ 6
  ho : ∀ h ∈ n.holds, h.k < n.fs.length ∧ (∀ f, n.fs[h.k]? = some f → inR f.w h.s = true) ∧ ∃ a, n.rows[h.l]? = some (.keep h.k a)
  r1 : 1 ≤ n.rows.length
  r3 : n.rows.length ≤ 60000
  ro : ∀ i r, n.rows[i]? = some r → RowOk n.holds.length n.fs.length i r
  out : n.out < n.rows.length
theorem NetPre.full {n : NetP} (h : NetPre n) (r2 : n.rows.length ≤ 60) (po : ∀ p ∈ n.pts, -200 ≤ p ∧ p ≤ 200) : NetOk n := ⟨h.f1, h.f2, h.fo, h.en, h.h2, h.ho, h.r1, r2, h.ro, po, h.out⟩
def ptV (p : Int) : V := if -200 ≤ p ∧ p ≤ 200 then .int p else .non
def spRowPtX : Sp := fun vs H Q _ => ∃ (ra pa gv : Addr) (r : Row) (en : Int) (hp fp pts : List Int), vs = [.ref ra, .ref pa, .ref gv] ∧ H ra = some (.tup r.vs) ∧ H pa = some (.lst (pts.map V.int)) ∧ GivenAt H gv en hp fp ∧ RowOk hp.length fp.length pts.length r ∧ Q (ptV (rowPt en hp fp pts r)) H
/-- the first point too far off -/
def FarAt (pts : List Int) (i : Nat) : Prop := i < pts.length ∧ ¬ (-200 ≤ pts.getD i 0 ∧ pts.getD i 0 ≤ 200) ∧ ∀ j, j < i → -200 ≤ pts.getD j 0 ∧ pts.getD j 0 ≤ 200
def spCkPtsX (CB : Addr) : Sp := fun vs H Q E => ∃ (ra gv : Addr) (rv : List V) (rows : List Row) (en : Int) (hp fp : List Int), vs = [.ref ra, .ref gv] ∧ H ra = some (.lst rv) ∧ TsAt H rv (rows.map Row.vs) ∧ GivenAt H gv en hp fp ∧ 1 ≤ rows.length ∧ (∀ i r, rows[i]? = some r → RowOk hp.length fp.length i r) ∧
  (rows.length ≤ 60 → (∀ p ∈ ptsOf en hp fp rows, -200 ≤ p ∧ p ≤ 200) → ∀ p H', Same H H' → H p = none → H' p = some (.lst ((ptsOf en hp fp rows).map V.int)) → Q (.ref p) H') ∧
  (60 < rows.length → ∀ d H', Same H H' → H d = none → BnAt H' d "rows" .non → E (.ref CB) (some d) H') ∧
  (rows.length ≤ 60 → ∀ i, FarAt (ptsOf en hp fp rows) i → ∀ d H', Same H H' → H d = none → BnAt H' d "rows" (.int i) → E (.ref CB) (some d) H')
def spNetInitR (C CN CB : Addr) : Sp := fun vs H Q E => ∃ (p dx fl rl hl : Addr) (n : NetP) (fv rv hv : List V), vs = [.ref p, .ref fl, .int n.en, .ref rl, .ref hl, .int n.out] ∧ H p = some (.ins CN dx []) ∧ H fl = some (.lst fv) ∧ FsAt C H fv n.fs ∧ H rl = some (.lst rv) ∧ TsAt H rv (n.rows.map Row.vs) ∧ H hl = some (.lst hv) ∧ TsAt H hv (n.holds.map Hold.vs) ∧ NetPre n ∧
  (n.rows.length ≤ 60 → (∀ p ∈ n.pts, -200 ≤ p ∧ p ≤ 200) → ∀ H', NetAt C CN H' p n → (∀ b o, b ≠ p → H b = some o → H' b = some o) → Q .non H') ∧
  (60 < n.rows.length → ∀ d H', Same H H' → H d = none → BnAt H' d "rows" .non → E (.ref CB) (some d) H') ∧
  (n.rows.length ≤ 60 → ∀ i, FarAt n.pts i → ∀ d H', Same H H' → H d = none → BnAt H' d "rows" (.int i) → E (.ref CB) (some d) H')
theorem pts_next {en : Int} {hp fp : List Int} {rows : List Row} {i : Nat} {r : Row} (e : rows[i]? = some r) : (ptsOf en hp fp rows).getD i 0 = rowPt en hp fp (ptsOf en hp fp (rows.take i)) r := by
  rw [ptsOf_acc, accV e, accL_take]
  rfl
theorem all_near {pts : List Int} (h : ∀ j, j < pts.length → -200 ≤ pts.getD j 0 ∧ pts.getD j 0 ≤ 200) : ∀ p ∈ pts, -200 ≤ p ∧ p ≤ 200 := fun p hp => by
  obtain ⟨j, l, e⟩ := List.getElem_of_mem hp
  have := h j l
  rw [List.getD_eq_getElem?_getD, List.getElem?_eq_getElem l, e] at this
  exact this
section
variable {P : Program} {w : World} {K : PySem.W.Frag} {mg : Str → Option Value} {base : Heap}
theorem ok_row_pointX {f : Addr} {fd : FuncData} {dP : Addr} {eP : Array DictEntry} {nP : Nat} (RU : Ruls P w K mg base dP eP nP) (NC : NCst mg) (F : Fun K "row_point" "row_point" s_row_point f fd) (z : Zs mg) (c_is_written_as_row : Cal P w K mg base 1 "is_written_as_row" ["thing"] spWritten) : FnOk P w K mg base CX0 4 f fd ["row", "points", "given"] spRowPtX := by
  refine F.ok sc_row_point (fun vs H Q E h => ?_) (fun cdv A outer s H vs Q E hr h => ?_)
  · obtain ⟨ra, pa, gv, r, en, hp, fp, pts, rfl, _⟩ := h
    rfl
  · obtain ⟨ra, pa, gv, r, en, hp, fp, pts, rfl, hra, hpa, hg, hok, q⟩ := h
    obtain ⟨fR, fdR, h1, hK, hB, hF⟩ := RU.at_ r.kd
    refine ⟨_, (pss_cons (ps_if (pt_not (pt_val (pe_cal c_is_written_as_row hr (pa_cons (pv 0) pa_nil)))) (pss_one (ps_ret pe_non)) pss_nil)
      (pss_cons (ps_set (i := 3) sc_row_point.nd rfl (.inl rfl) (pe_ix ix_kdict (pe_glob (v := .ref dP) (by rfl) RU.gm rfl) (pe_ix ix_tup (pv 0) pe_int (fun _ _ => rfl)) (fun _ _ => rfl)))
      (pss_cons (ps_set (i := 4) sc_row_point.nd rfl (.inl rfl) (pe_callL (i := 3) hF hr rfl (Or.inl rfl) hK hB .nil pass0 (pa_cons (pv 0) (pa_cons (pv 1) (pa_cons (pv 2) pa_nil)))))
      (pss_one (ps_ret (pe_ifExp (PW.pt (pw_and (pt_cmpR op_notN (pv 4) pe_non (nomark _)) (pw_and1 (pt_cmpR op_le (pe_callB call_abs (by rfl) z.abs (by decide +kernel) (pa_cons (pv 4) pa_nil)) (pe_glob (v := .int 200) (by rfl) NC.gr.choose_spec ⟨_, rfl⟩) (nomark _))))) (pv 4) pe_non)))))), ?_⟩
    refine ⟨_, rfl, ra, r, rfl, hra, _, rfl, iteF ?_⟩
    refine ⟨_, rfl, ra, _, 0, .str r.kd.s, rfl, rfl, SqT.of hra, atI_nat (j := 0) r.vs0, dP, r.kd.s, .ref fR, rfl, rfl, ⟨eP, nP, _, RU.D.at_, RU.D.lit, h1, rfl⟩, ?_⟩
    refine ⟨rfl, _, rfl, _, rfl, _, rfl, ra, pa, gv, r, en, hp, fp, pts, rfl, hra, rfl, hpa, hg, hok, ?_⟩
    unfold ptV at q
    refine ⟨_, rfl, rfl, _, rfl, iteT ⟨_, rfl, _, rfl, _, _, rfl, rfl, _, rfl, ?_⟩⟩
    by_cases c : -200 ≤ rowPt en hp fp pts r ∧ rowPt en hp fp pts r ≤ 200
    · rw [if_pos c] at q
      exact iteC (d := true) (decide_eq_true (by split <;> omega)) (iteT ⟨_, rfl, q⟩)
    · rw [if_neg c] at q
      exact iteC (d := false) (decide_eq_false (by split <;> omega)) (iteF q)
theorem ok_checked_pointsX {f : Addr} {fd : FuncData} {CB fB : Addr} (EB : PySem.ErrX.ErrC K mg "BadNet" CB) (IB : PySem.ErrX.IniOk2 P w K mg CB fB) (NC : NCst mg) (F : Fun K "checked_points" "checked_points" s_checked_points f fd) (z : Zs mg) (c_check_length : CalX P w K mg base 3 "check_length" ["thing", "part", "least", "most"] [] (spLen4X CB)) (c_row_point : Cal P w K mg base 4 "row_point" ["row", "points", "given"] spRowPtX) : FnOk P w K mg base (L2.CX P w) 5 f fd ["rows", "given"] (spCkPtsX CB) := by
  refine F.okX sc_checked_points (fun vs H Q E h => ?_) (fun cdv A outer s H vs Q E hr h => ?_)
  · obtain ⟨ra, gv, rv, rows, en, hp, fp, rfl, _⟩ := h
    rfl
  · obtain ⟨ra, gv, rv, rows, en, hp, fp, rfl, hra, hrs, hg, l0, ro, q, qe, qf⟩ := h
    refine ⟨_, (pss_cons (ps_expr (pe_calxS c_check_length hr (takes_of rfl rfl rfl rfl) (pa_cons (pv 0) (pa_cons pe_str (pa_cons pe_int (pa_cons (pe_glob (v := .int 60) (by rfl) NC.mr.choose_spec ⟨_, rfl⟩) pa_nil))))))
      (pss_cons (ps_set (i := 2) sc_checked_points.nd rfl (.inl rfl) (pe_lst pa_nil))
      (pss_cons (ps_for (passes_of rfl) rfl (pi_enum (by rfl) z.enumerate (pa_cons (pv 0) pa_nil)) (pg_tup (by rfl) (pgs_cons (pg_name (i := 3) sc_checked_points.nd rfl (.inl rfl)) (pgs_cons (pg_name (i := 4) sc_checked_points.nd rfl (.inl rfl)) pgs_nil))) (pss_cons (ps_set (i := 5) sc_checked_points.nd rfl (.inl rfl) (pe_cal c_row_point hr (pa_cons (pv 4) (pa_cons (pv 2) (pa_cons (pv 1) pa_nil)))))
      (pss_cons (ps_if (pt_cmpR op_isN (pv 5) pe_non (nomark _)) (pss_one (ps_raiseErr2 rfl EB IB hr (takes_of rfl rfl rfl rfl) (by exact (pa_cons pe_str (pa_cons (pv 3) pa_nil))))) pss_nil)
      (pss_one (ps_expr (pe_bm PySem.F.plainAttrs_list PySem.F.slot_list_append PySem.F.type_list_append mt_append (pv 2) (pa_cons (pv 5) pa_nil)))))))
      (pss_one (ps_ret (pv 2)))))), ?_⟩
    have ll := hrs.len
    rw [List.length_map] at ll
    have lp : (ptsOf en hp fp rows).length = rows.length := ptsOf_len ..
    refine ⟨_, rfl, ra, rv, "rows", 1, 60, rfl, hra, by omega, (by decide +kernel), fun l1 => ?_, fun l1 d hd => qe (by omega) d _ (same_new hd) hd upd_same⟩
    refine ⟨(by show 0 ≤ sizeLine; decide), fun pl hpl => ?_⟩
    generalize hG : upd _ pl _ = G0
    obtain ⟨s0, h_pl⟩ := upd_gen hG hpl
    refine ⟨_, rfl, ra, _, rfl, SqL.of (s0 _ _ hra), for_it (walk_enum (K := K) (a := ra) (xs := rv)) (fun i σ H' => ∃ y3 y4 y5 : Option V, σ = [some (.ref ra), some (.ref gv), some (.ref pl), y3, y4, y5] ∧ Same H H' ∧ H' pl = some (.lst ((ptsOf en hp fp (rows.take i)).map V.int)) ∧ ∀ j, j < i → -200 ≤ (ptsOf en hp fp rows).getD j 0 ∧ (ptsOf en hp fp rows).getD j 0 ≤ 200) ⟨none, none, none, rfl, s0, h_pl, fun j hj => absurd hj (Nat.not_lt_zero _)⟩ (fun i σ H' _ hP => ?_) (fun i v σ H1 H2 hi hP hY => ?_) (fun σ H' hP => ?_)⟩
    · obtain ⟨y3, y4, y5, rfl, s1, _⟩ := hP
      exact SqL.of (s1 _ _ hra)
    · obtain ⟨y3, y4, y5, rfl, s1, hl, near⟩ := hP
      obtain ⟨Tp, u, v', rfl, nT, rfl, e1, e2⟩ := hY
      cases e1
      obtain ⟨p, xs, rfl, ex, hp'⟩ := hrs.get e2
      rw [List.getElem?_map] at ex
      obtain ⟨r, er, rfl⟩ := Option.map_eq_some_iff.mp ex
      have sn := same_new (o := .tup [.int (i : Nat), .ref p]) nT
      have s2 := s1.trans sn
      have hl2 := sn _ _ hl
      have il := (List.getElem?_eq_some_iff.mp er).1
      have li : (ptsOf en hp fp (rows.take i)).length = i := by
        rw [ptsOf_len, List.length_take]
        omega
      have pn := pts_next (en := en) (hp := hp) (fp := fp) er
      refine ⟨Tp, _, rfl, SqT.of upd_same, rfl, _, _, rfl, _, _, rfl, rfl, ?_⟩
      refine ⟨_, rfl, _, rfl, _, rfl, p, pl, gv, r, en, hp, fp, _, rfl, s2 _ _ hp', hl2, hg.same s2, by rw [li]; exact ro i r er, ?_⟩
      rw [← pn]
      by_cases c : -200 ≤ (ptsOf en hp fp rows).getD i 0 ∧ (ptsOf en hp fp rows).getD i 0 ≤ 200
      · rw [show ptV ((ptsOf en hp fp rows).getD i 0) = .int ((ptsOf en hp fp rows).getD i 0) from if_pos c]
        refine ⟨_, rfl, rfl, _, rfl, iteF ⟨_, rfl, .inl ⟨rfl, _, SqL.of hl2⟩, _, rfl, pl, _, _, rfl, rfl, hl2, ?_, ?_⟩⟩
        · rw [List.length_map, li]
          exact sl_lt (by omega)
        · refine ⟨_, _, _, rfl, fun b o e => ?_, ?_, fun j hj => ?_⟩
          · rw [upd_ne (ne_of_none e hpl)]
            exact s2 _ _ e
          · rw [upd_same, ptsOf_next er, List.map_append, pn]
            rfl
          · by_cases ji : j = i
            · rw [ji]
              exact c
            · exact near j (by omega)
      · rw [show ptV ((ptsOf en hp fp rows).getD i 0) = .non from if_neg c]
        refine ⟨_, rfl, rfl, _, rfl, iteT ⟨_, rfl, _, _, rfl, .inl (.inl ⟨_, rfl, by decide⟩), .inl (VFmt.nat (by omega)), fun d hd => qf (by omega) i ⟨by omega, c, near⟩ d _ (s2.trans (same_new hd)) (s2.free hd) upd_same⟩⟩
    · obtain ⟨y3, y4, y5, rfl, s1, hl, near⟩ := hP
      rw [ll, List.take_length] at hl
      exact ⟨_, rfl, q (by omega) (all_near fun j hj => near j (by omega)) pl _ s1 hpl hl⟩
theorem ok_Net___init__R {f : Addr} {fd : FuncData} {C CN CB : Addr} (T : FTxt K mg C) (TN : NTxt K mg CN) (F : Fun K "__init__" "Net.__init__" s_Net___init__ f fd) (z : Zs mg) (c_check_forms : Cal P w K mg base 2 "check_forms" ["forms"] (spCkForms C)) (c_is_place : Cal P w K mg base 2 "is_place" ["thing", "many"] spPlace) (c_check_holds : Cal P w K mg base 4 "check_holds" ["holds", "forms"] (spCkHolds C)) (c_checked_points : CalX P w K mg base 5 "checked_points" ["rows", "given"] [] (spCkPtsX CB)) (c_check_links : Cal P w K mg base 3 "check_links" ["holds", "rows"] spCkLinks) : FnOk P w K mg base (L2.CX P w) 6 f fd ["self", "forms", "enters", "rows", "holds", "out"] (spNetInitR C CN CB) := by
  refine F.okX sc_Net___init__ (fun vs H Q E h => ?_) (fun cdv A outer s H vs Q E hr h => ?_)
  · obtain ⟨p, dx, fl, rl, hl, n, fv, rv, hv, rfl, _⟩ := h
    rfl
  · obtain ⟨p, dx, fl, rl, hl, n, fv, rv, hv, rfl, hp, hf, hfs, hra, hrs, hha, hhs, ok, qq, qe, qf⟩ := h
    refine ⟨_, (pss_cons (ps_expr (pe_cal c_check_forms hr (pa_cons (pv 1) pa_nil)))
      (pss_cons (ps_if (pt_not (pt_val (pe_cal c_is_place hr (pa_cons (pv 2) (pa_cons (pe_callB call_len_seq (by rfl) z.len PySem.boot_len (pa_cons (pv 1) pa_nil)) pa_nil))))) (pss_one ps_never) pss_nil)
      (pss_cons (ps_expr (pe_cal c_check_holds hr (pa_cons (pv 4) (pa_cons (pv 1) pa_nil))))
      (pss_cons (ps_set (i := 6) sc_Net___init__.nd rfl (.inr rfl) (pe_lc (own := [("form", 9)]) (g := gName 9) (tt := tYes) (te := tFld K (tVar 9) "point") (by rfl) sc_Net___init__.nd (pi_list (pv 1)) (blkOk_by (own := [("form", 9)]) (N := ["self", "forms", "enters", "rows", "holds", "out", "form_points", "hold_points", "points", "form", "hold"]) (sc := defScope s_Net___init__) (by decide +kernel)) (fun _ _ _ _ _ => by exact (pg_name (i := 9) sc_Net___init__.nd rfl (.inl rfl))) (fun _ _ _ _ _ => by exact pts_nil) (fun _ _ _ _ _ => by exact (pe_fld (pv 9) rfl))))
      (pss_cons (ps_setLc (i := 7) (own := [("hold", 10)]) (g := gName 10) (tt := tYes) (te := (tOp (rIxL K) (tVar 6) (tOp (rIxT K) (tVar 10) (tC (.int 0))))) (by rfl) sc_Net___init__.nd rfl rfl (sw_true rfl rfl rfl (by decide +kernel)) (pi_list (pv 4)) (blkOk_by (own := [("hold", 10)]) (N := ["self", "forms", "enters", "rows", "holds", "out", "form_points", "hold_points", "points", "form", "hold"]) (sc := defScope s_Net___init__) (by decide +kernel)) (fun _ _ _ _ _ => by exact (pg_name (i := 10) sc_Net___init__.nd rfl (.inl rfl))) (fun _ _ _ _ _ => by exact pts_nil) (fun _ _ _ _ _ => by exact (pe_ix ix_list (pv 6) (pe_ix ix_tup (pv 10) pe_int (fun _ _ => rfl)) (fun _ _ => rfl))))
      (pss_cons (ps_set (i := 8) sc_Net___init__.nd rfl (.inl rfl) (pe_calxS c_checked_points hr (takes_of rfl rfl rfl rfl) (pa_cons (pv 3) (pa_cons (pe_tup (pa_cons (pe_ix ix_list (pv 6) (pv 2) (fun _ _ => rfl)) (pa_cons (pv 7) (pa_cons (pv 6) pa_nil)))) pa_nil))))
      (pss_cons (ps_expr (pe_cal c_check_links hr (pa_cons (pv 4) (pa_cons (pv 3) pa_nil))))
      (pss_cons (ps_if (pt_not (pt_val (pe_cal c_is_place hr (pa_cons (pv 5) (pa_cons (pe_callB call_len_seq (by rfl) z.len PySem.boot_len (pa_cons (pv 3) pa_nil)) pa_nil))))) (pss_one ps_never) pss_nil)
      (pss_cons (ps_fld (pv 0) (pe_callTy call_list_of (by rfl) z.list (by decide +kernel) (pa_cons (pv 1) pa_nil)) rfl)
      (pss_cons (ps_fld (pv 0) (pv 2) rfl)
      (pss_cons (ps_fld (pv 0) (pe_callTy call_list_of (by rfl) z.list (by decide +kernel) (pa_cons (pv 3) pa_nil)) rfl)
      (pss_cons (ps_fld (pv 0) (pe_callTy call_list_of (by rfl) z.list (by decide +kernel) (pa_cons (pv 4) pa_nil)) rfl)
      (pss_cons (ps_fld (pv 0) (pv 5) rfl)
      (pss_one (ps_fld (pv 0) (pv 8) rfl))))))))))))))), ?_⟩
    have lf := hfs.len
    have lr := hrs.len
    have lh := hhs.len
    rw [List.length_map] at lr lh
    have en0 := ok.en
    have out0 := ok.out
    refine ⟨_, rfl, fl, fv, n.fs, rfl, hf, hfs, ok.f1, ok.f2, fun H1 s1 => ?_⟩
    refine ⟨_, rfl, _, rfl, fl, _, rfl, .inl (SqL.of (s1 _ _ hf)), _, _, rfl, by omega, by omega, _, rfl, iteF ?_⟩
    refine ⟨_, rfl, _, rfl, hl, fl, hv, fv, n.fs, n.holds, rfl, s1 _ _ hha, hhs.same s1, s1 _ _ hf, hfs.same s1, ok.h2, fun h hm => ⟨(ok.ho h hm).1, (ok.ho h hm).2.1⟩, fun H2 s2 => ?_⟩
    have S2 := s1.trans s2
    refine ⟨_, rfl, fl, rfl, ⟨_, SqL.of (S2 _ _ hf)⟩, fun Da hD => ?_⟩
    refine lc_it (walk_list (K := K) (a := fl) (xs := fv)) (fun i H4 => Same H2 H4 ∧ H4 Da = some (.lst (((n.fs.take i).map (·.pt)).map V.int))) ⟨same_new hD, upd_same⟩ (fun i H4 hi hP => SqL.of (hP.1 _ _ (S2 _ _ hf))) (fun i x' H4 H5 hi hP hy => ?_) (fun H3 hP => ?_)
    · obtain ⟨s4, hD4⟩ := hP
      obtain ⟨rfl, hx⟩ := hy
      obtain ⟨fa, fm, rfl, efm, hfa⟩ := hfs.get hx
      obtain ⟨dxf, hof⟩ := (FormAt.same hfa (S2.trans s4)).ob
      refine ⟨rfl, _, rfl, fa, C, dxf, _, _, rfl, hof, T.cl, T.nP, fl_p, _, hD4, ?_, fun b' o' e' => ?_, ?_⟩
      · rw [List.length_map, List.length_map, List.length_take]
        exact sl_lt (by have := ok.f2; omega)
      · rw [upd_ne (ne_of_none e' hD)]
        exact s4 _ _ e'
      · rw [upd_same, List.take_add_one, efm, List.map_append, List.map_append]
        rfl
    obtain ⟨s3, hDa⟩ := hP
    rw [lf, List.take_length] at hDa
    have S3 := S2.trans s3
    have lfp : (n.fs.map (·.pt)).length = n.fs.length := List.length_map ..
    refine ⟨_, rfl, hl, rfl, ⟨_, SqL.of (S3 _ _ hha)⟩, fun Db hDb => ?_⟩
    refine lc_it (walk_list (K := K) (a := hl) (xs := hv)) (fun i H4 => Same H3 H4 ∧ H4 Db = some (.lst (((n.holds.take i).map fun h => fpt n.fs h.k).map V.int))) ⟨same_new hDb, upd_same⟩ (fun i H4 hi hP => SqL.of (hP.1 _ _ (S3 _ _ hha))) (fun i x' H4 H5 hi hP hy => ?_) (fun H4 hP => ?_)
    · obtain ⟨s4, hD4⟩ := hP
      obtain ⟨rfl, hx⟩ := hy
      obtain ⟨ha, xs, rfl, exs, hha'⟩ := hhs.get hx
      rw [List.getElem?_map] at exs
      obtain ⟨hh, eh, rfl⟩ := Option.map_eq_some_iff.mp exs
      have kl := (ok.ho hh (List.mem_of_getElem? eh)).1
      refine ⟨rfl, _, rfl, _, rfl, ha, _, 0, .int hh.k, rfl, rfl, SqT.of ((S3.trans s4) _ _ hha'), a0, Da, _, _, _, rfl, rfl, SqL.of (s4 _ _ hDa), ints_at (by omega), _, hD4, ?_, fun b' o' e' => ?_, ?_⟩
      · rw [List.length_map, List.length_map, List.length_take]
        exact sl_lt (by have := ok.h2; omega)
      · rw [upd_ne (ne_of_none e' hDb)]
        exact s4 _ _ e'
      · rw [upd_same, List.take_add_one, eh, List.map_append, List.map_append]
        rfl
    obtain ⟨s4, hDb'⟩ := hP
    rw [lh, List.take_length] at hDb'
    have S4 := S3.trans s4
    refine ⟨_, rfl, _, rfl, _, rfl, Da, _, _, _, rfl, rfl, SqL.of (s4 _ _ hDa), ints_at (by omega), _, rfl, _, rfl, (by show 3 ≤ sizeLine; decide), fun gv hgv => ?_⟩
    generalize hG : upd _ gv _ = G5
    obtain ⟨s5, h_gv⟩ := upd_gen hG hgv
    have S5 := S4.trans s5
    have lhp : (hpts n).length = n.holds.length := List.length_map ..
    refine ⟨rl, gv, rv, n.rows, fpt n.fs n.en, hpts n, n.fs.map FormP.pt, rfl, S5 _ _ hra, hrs.same S5, ⟨Db, Da, h_gv, s5 _ _ hDb', s5 _ _ (s4 _ _ hDa)⟩, ok.r1, fun i r e => by rw [lhp, lfp]; exact ok.ro i r e, fun l60 hpo pl H6 s6 hpl h_pl => ?_, fun big d H6 s6 hd0 hd => qe big d _ (S5.trans s6) (S5.free hd0) hd, fun l60 i far d H6 s6 hd0 hd => qf l60 i far d _ (S5.trans s6) (S5.free hd0) hd⟩
    have q := qq l60 hpo
    replace ok := ok.full l60 hpo
    have S6 := S5.trans s6
    refine ⟨_, rfl, _, rfl, hl, rl, hv, rv, n.holds, n.rows, rfl, S6 _ _ hha, hhs.same S6, S6 _ _ hra, hrs.same S6, fun h hm => (ok.ho h hm).2.2, fun H7 s7 => ?_⟩
    have S7 := S6.trans s7
    replace h_pl := s7 _ _ h_pl
    refine ⟨_, rfl, _, rfl, rl, _, rfl, .inl (SqL.of (S7 _ _ hra)), _, _, rfl, by omega, by omega, _, rfl, iteF ?_⟩
    have hp0 := hp
    have n_pl : pl ≠ p := (ne_of_none (S5 _ _ hp) hpl).symm
    have nfl : fl ≠ p := ne_of hf hp (fun z => nomatch z)
    have nrl : rl ≠ p := ne_of hra hp (fun z => nomatch z)
    have nhl : hl ≠ p := ne_of hha hp (fun z => nomatch z)
    have B : SameBut p H H7 := .of S7
    replace hp := S7 _ _ hp
    clear s1 s2 s3 s4 s5 s6 s7 S2 S3 S4 S5 S6 S7 hDa hDb' h_gv hG hpl hD hDb hgv
    refine ⟨_, rfl, fl, _, rfl, .inl (SqL.of (B _ _ nfl hf)), fun f2 hf2 => ?_⟩
    have n_f2 : f2 ≠ p := (ne_of_none hp hf2).symm
    generalize hG : upd _ f2 _ = K1
    obtain ⟨s, h_f2⟩ := upd_gen hG hf2
    replace B := B.trans (.of s)
    replace hp := s _ _ hp
    replace h_pl := s _ _ h_pl
    clear hG s
    refine ⟨_, rfl, p, CN, dx, _, rfl, hp, TN.cl, TN.n_form_list, (by show 0 < 1000; decide), ?_⟩
    generalize hG : upd _ p _ = K2
    obtain ⟨s, hp'⟩ := upd_but hG
    replace B := B.trans s
    clear hp
    have hp := hp'
    clear hp'
    rw [nf0] at hp
    replace h_pl := s _ _ n_pl h_pl
    replace h_f2 := s _ _ n_f2 h_f2
    clear hG s
    refine ⟨_, rfl, _, rfl, p, CN, dx, _, rfl, hp, TN.cl, TN.n_enters_at, (by show 1 < 1000; decide), ?_⟩
    generalize hG : upd _ p _ = K3
    obtain ⟨s, hp'⟩ := upd_but hG
    replace B := B.trans s
    clear hp
    have hp := hp'
    clear hp'
    rw [nf1] at hp
    replace h_pl := s _ _ n_pl h_pl
    replace h_f2 := s _ _ n_f2 h_f2
    clear hG s
    refine ⟨_, rfl, rl, _, rfl, .inl (SqL.of (B _ _ nrl hra)), fun r2 hr2 => ?_⟩
    have n_r2 : r2 ≠ p := (ne_of_none hp hr2).symm
    generalize hG : upd _ r2 _ = K4
    obtain ⟨s, h_r2⟩ := upd_gen hG hr2
    replace B := B.trans (.of s)
    replace hp := s _ _ hp
    replace h_pl := s _ _ h_pl
    replace h_f2 := s _ _ h_f2
    clear hG s
    refine ⟨_, rfl, p, CN, dx, _, rfl, hp, TN.cl, TN.n_row_list, (by show 2 < 1000; decide), ?_⟩
    generalize hG : upd _ p _ = K5
    obtain ⟨s, hp'⟩ := upd_but hG
    replace B := B.trans s
    clear hp
    have hp := hp'
    clear hp'
    rw [nf2] at hp
    replace h_pl := s _ _ n_pl h_pl
    replace h_f2 := s _ _ n_f2 h_f2
    replace h_r2 := s _ _ n_r2 h_r2
    clear hG s
    refine ⟨_, rfl, hl, _, rfl, .inl (SqL.of (B _ _ nhl hha)), fun h2 hh2 => ?_⟩
    have n_h2 : h2 ≠ p := (ne_of_none hp hh2).symm
    generalize hG : upd _ h2 _ = K6
    obtain ⟨s, h_h2⟩ := upd_gen hG hh2
    replace B := B.trans (.of s)
    replace hp := s _ _ hp
    replace h_pl := s _ _ h_pl
    replace h_f2 := s _ _ h_f2
    replace h_r2 := s _ _ h_r2
    clear hG s
    refine ⟨_, rfl, p, CN, dx, _, rfl, hp, TN.cl, TN.n_hold_list, (by show 3 < 1000; decide), ?_⟩
    generalize hG : upd _ p _ = K7
    obtain ⟨s, hp'⟩ := upd_but hG
    replace B := B.trans s
    clear hp
    have hp := hp'
    clear hp'
    rw [nf3] at hp
    replace h_pl := s _ _ n_pl h_pl
    replace h_f2 := s _ _ n_f2 h_f2
    replace h_r2 := s _ _ n_r2 h_r2
    replace h_h2 := s _ _ n_h2 h_h2
    clear hG s
    refine ⟨_, rfl, _, rfl, p, CN, dx, _, rfl, hp, TN.cl, TN.n_out_at, (by show 4 < 1000; decide), ?_⟩
    generalize hG : upd _ p _ = K8
    obtain ⟨s, hp'⟩ := upd_but hG
    replace B := B.trans s
    clear hp
    have hp := hp'
    clear hp'
    rw [nf4] at hp
    replace h_pl := s _ _ n_pl h_pl
    replace h_f2 := s _ _ n_f2 h_f2
    replace h_r2 := s _ _ n_r2 h_r2
    replace h_h2 := s _ _ n_h2 h_h2
    clear hG s
    refine ⟨_, rfl, _, rfl, p, CN, dx, _, rfl, hp, TN.cl, TN.n_point_list, (by show 5 < 1000; decide), ?_⟩
    generalize hG : upd _ p _ = K9
    obtain ⟨s, hp'⟩ := upd_but hG
    replace B := B.trans s
    clear hp
    have hp := hp'
    clear hp'
    rw [nf5] at hp
    replace h_pl := s _ _ n_pl h_pl
    replace h_f2 := s _ _ n_f2 h_f2
    replace h_r2 := s _ _ n_r2 h_r2
    replace h_h2 := s _ _ n_h2 h_h2
    clear hG s
    exact q _ ⟨ok, dx, f2, r2, h2, pl, fv, rv, hv, hp, h_f2, FsAt.butI hfs B hp0, h_r2, hrs.mono (fun a xs e => B _ _ (ne_of e hp0 (fun z => nomatch z)) e), h_h2, hhs.mono (fun a xs e => B _ _ (ne_of e hp0 (fun z => nomatch z)) e), h_pl⟩ (fun b o nb e => B b o nb e)
end
end E1

namespace E1
open PySem PySem.Spec PyProof.Rows L2
theorem iteN {c A B : Prop} [Decidable c] (h1 : ¬ c → A) (h2 : c → B) : if (!decide c) = true then A else B := by
  by_cases h : c
  · rw [decide_eq_true h]
    exact iteF (h2 h)
  · rw [decide_eq_false h]
    exact iteT (h1 h)
theorem vne {i j : Int} (h : ¬ V.int i = V.int j) : i ≠ j := fun e => h (by rw [e])
theorem veq {i j : Int} (h : V.int i = V.int j) : i = j := by
  cases h
  rfl
def spSpelled : Sp := fun vs H Q _ => ∃ n : Int, vs = [.int n] ∧ n.natAbs ≤ 2 ^ 200 ∧ ∀ p H', H p = none → Same H H' → H' p = some (.lst ((naf n).map V.int)) → Q (.ref p) H'

def putS (m a : Nat) (out : List Row) (k : Nat) (d : Int) : List Row := if d = 0 then out else out ++ [.move ((k : Int) - (m : Int)) a, if d = 1 then .plus (out.length - 1) out.length else .less (out.length - 1) out.length]
theorem putD_snoc (m a : Nat) (d : Int) : ∀ (ds : List Int) (out : List Row) (k : Nat), putD m a out k (ds ++ [d]) = putS m a (putD m a out k ds) (k + ds.length) d
  | [], out, k => rfl
  | e :: ds, out, k => by
    show putD m a _ (k + 1) (ds ++ [d]) = putS m a (putD m a _ (k + 1) ds) (k + (ds.length + 1)) d
    rw [putD_snoc m a d ds, show k + 1 + ds.length = k + (ds.length + 1) by omega]
theorem putD_len (m a : Nat) : ∀ (ds : List Int) (out : List Row) (k : Nat), out.length ≤ (putD m a out k ds).length ∧ (putD m a out k ds).length ≤ out.length + 2 * ds.length
  | [], out, k => ⟨Nat.le_refl _, Nat.le_refl _⟩
  | d :: ds, out, k => by
    show out.length ≤ (putD m a (putS m a out k d) (k + 1) ds).length ∧ (putD m a (putS m a out k d) (k + 1) ds).length ≤ out.length + 2 * (ds.length + 1)
    have h := putD_len m a ds (putS m a out k d) (k + 1)
    have l : out.length ≤ (putS m a out k d).length ∧ (putS m a out k d).length ≤ out.length + 2 := by
      unfold putS
      split
      · omega
      · rw [List.length_append]
        exact ⟨Nat.le_add_right _ _, Nat.le_refl _⟩
    omega
def spPut : Sp := fun vs H Q _ => ∃ (rl : Addr) (rv : List V) (out : List Row) (f : Int) (m a : Nat), vs = [.ref rl, .int f, .int m, .int a] ∧ H rl = some (.lst rv) ∧ TsAt H rv (out.map Row.vs) ∧ out.length ≤ 50000 ∧ f.natAbs ≤ 2 ^ 63 ∧
  ∀ rv' H', SameBut rl H H' → H' rl = some (.lst rv') → TsAt H' rv' ((putD m a (out ++ [.less a a]) 0 (naf f)).map Row.vs) → Q .non H'
/-- a row renumbered: forms and holds stay -/
def spRenum : Sp := fun vs H Q _ => ∃ (ra fl pl hl : Addr) (r : Row) (fc hc : Nat) (ps : List Nat), vs = [.ref ra, .ref fl, .ref pl, .ref hl] ∧ H ra = some (.tup r.vs) ∧ H fl = some (.lst ((List.range fc).map nI)) ∧ H pl = some (.lst (ps.map nI)) ∧ H hl = some (.lst ((List.range hc).map nI)) ∧ RowOk hc fc ps.length r ∧
  ∀ p H', Same H H' → H' p = some (.tup (renR ps r).vs) → Q (.ref p) H'
theorem rng_at {k n : Nat} (h : k < n) : atI ((List.range n).map nI) (k : Int) = some (.int (k : Int)) := atI_nat (by rw [List.getElem?_map, List.getElem?_range h]; rfl)
theorem nat_at {l : List Nat} {k : Nat} (h : k < l.length) : atI (l.map nI) (k : Int) = some (.int ((l.getD k 0 : Nat) : Int)) := atI_nat (by
  rw [List.getElem?_map, List.getElem?_eq_getElem h, List.getD_eq_getElem?_getD, List.getElem?_eq_getElem h]
  rfl)
section
variable {P : Program} {w : World} {K : PySem.W.Frag} {mg : Str → Option Value} {base : Heap}
theorem sc_spelled : FnScope ["number", "digits", "digit"] ["number"] (defScope s_spelled) := ⟨rfl, rfl, rfl, by decide +kernel, rfl, by decide +kernel, by decide +kernel⟩
theorem ok_spelled {f : Addr} {fd : FuncData} {k : Nat} (F : Fun K "spelled" "spelled" s_spelled f fd) : FnOk P w K mg base CX0 (k + 1) f fd ["number"] spSpelled := by
  refine F.ok sc_spelled (fun vs H Q E h => ?_) (fun cdv A outer s H vs Q E hr h => ?_)
  · obtain ⟨n, rfl, _⟩ := h
    rfl
  · obtain ⟨n, rfl, hn, q⟩ := h
    refine ⟨_, (pss_cons (ps_set (i := 1) sc_spelled.nd rfl (.inl rfl) (pe_lst pa_nil))
      (pss_cons (ps_while PassesOwn.never (pt_cmpR op_ne (pv 0) pe_int (nomark _)) (pss_cons (ps_set (i := 2) sc_spelled.nd rfl (.inl rfl) pe_int)
      (pss_cons (ps_if (pt_truth (pe_op op_and (pv 0) pe_int) (by intro _; rfl)) (pss_one (ps_set (i := 2) sc_spelled.nd rfl (.inl rfl) (pe_op op_sub pe_int (pe_op op_and (pv 0) pe_int)))) pss_nil)
      (pss_cons (ps_expr (pe_bm PySem.F.plainAttrs_list PySem.F.slot_list_append PySem.F.type_list_append mt_append (pv 1) (pa_cons (pv 2) pa_nil)))
      (pss_one (ps_set (i := 0) sc_spelled.nd rfl (.inl rfl) (pe_op op_shr (pe_op op_sub (pv 0) (pv 2)) pe_int)))))))
      (pss_one (ps_ret (pv 1))))), ?_⟩
    have hlen := naf_len 200 n hn
    refine ⟨(by show 0 ≤ sizeLine; decide), fun l hl => ?_⟩
    dsimp only [gName, tSeq]
    refine while_by (fun σ H' => ∃ (m : Int) (acc : List Int) (y : Option V), σ = [some (.int m), some (.ref l), y] ∧ Same H H' ∧ H' l = some (.lst (acc.map V.int)) ∧ acc ++ naf m = naf n)
      (fun σ _ => match σ with | [some (.int m), _, _] => m.natAbs | _ => 0) ⟨n, [], none, rfl, same_new hl, upd_same, rfl⟩ (fun σ H1 hP => ?_) (fun σ H Q Q' m hh => ?_)
    · obtain ⟨m, acc, y, rfl, s1, hacc, hh⟩ := hP
      refine ⟨_, rfl, rfl, _, rfl, iteN (fun c => ?_) (fun c => ?_)⟩
      · have hm : m ≠ 0 := vne c
        have hhalf := dg_half hm
        rw [naf_ne hm] at hh
        have hl2 : acc.length < 1000 := by
          have := congrArg List.length hh
          rw [List.length_append, List.length_cons] at this
          omega
        refine ⟨_, rfl, _, _, rfl, rfl, _, rfl, ?_⟩
        rw [bitAnd_m1]
        have fin : ∀ d : Int, d = dg m → ∃ (m' : Int) (acc' : List Int) (y' : Option V), [some (.int ((m - d) / 2 ^ (1 : Int).toNat)), some (V.ref l), some (.int d)] = [some (.int m'), some (V.ref l), y'] ∧ Same H (upd H1 l (.lst (acc.map V.int ++ [.int d]))) ∧ (upd H1 l (.lst (acc.map V.int ++ [.int d]))) l = some (.lst (acc'.map V.int)) ∧ acc' ++ naf m' = naf n := fun d hd => by
          refine ⟨_, acc ++ [d], _, rfl, fun b o e => ?_, ?_, ?_⟩
          · rw [upd_ne (ne_of_none e hl)]
            exact s1 _ _ e
          · rw [upd_same, List.map_append]
            rfl
          · rw [hd, List.append_assoc]
            exact hh
        have mu : ∀ d : Int, d = dg m → ((m - d) / 2 ^ (1 : Int).toNat).natAbs < m.natAbs := fun d hd => by
          rw [hd]
          exact hhalf
        have app : ∀ d : Int, d = dg m → acc.length < sizeLine := fun _ _ => small1000 (by omega)
        have hlst : (acc.map V.int).length < sizeLine := by
          rw [List.length_map]
          exact small1000 (by omega)
        by_cases c2 : m % 2 = 0
        · have d0 : (0 : Int) = dg m := by
            unfold dg
            rw [if_pos c2]
          rw [c2]
          refine iteF ?_
          exact ⟨_, rfl, .inl ⟨rfl, _, SqL.of hacc⟩, _, rfl, l, _, _, rfl, rfl, hacc, hlst, _, rfl, _, rfl, _, _, rfl, rfl, _, _, rfl, rfl, (by show (0 : Int) ≤ 1; decide), fin 0 d0, mu 0 d0⟩
        · have d1 : 2 - m % 4 = dg m := by
            unfold dg
            rw [if_neg c2]
          have e1 : m % 2 = 1 := by omega
          rw [e1]
          refine iteT ⟨_, rfl, _, _, rfl, rfl, _, _, rfl, rfl, ?_⟩
          rw [bitAnd_m2]
          exact ⟨_, rfl, .inl ⟨rfl, _, SqL.of hacc⟩, _, rfl, l, _, _, rfl, rfl, hacc, hlst, _, rfl, _, rfl, _, _, rfl, rfl, _, _, rfl, rfl, (by show (0 : Int) ≤ 1; decide), fin _ d1, mu _ d1⟩
      · have hm : m = 0 := veq c
        subst hm
        rw [naf_zero, List.append_nil] at hh
        rw [hh] at hacc
        exact ⟨_, rfl, q l H1 hl s1 hacc⟩
    · obtain ⟨v, e, sc, kk, ek, hq⟩ := hh
      exact ⟨v, e, sc, kk, ek, m _ _ hq⟩

theorem sc_put_times : FnScope ["rows", "factor", "more", "at", "place", "digit", "last"] ["rows", "factor", "more", "at"] (defScope s_put_times) := ⟨rfl, rfl, rfl, by decide +kernel, rfl, by decide +kernel, by decide +kernel⟩
theorem ok_put_times {f : Addr} {fd : FuncData} (F : Fun K "put_times" "put_times" s_put_times f fd) (z : Zs mg) (c_spelled : Cal P w K mg base 1 "spelled" ["number"] spSpelled) : FnOk P w K mg base CX0 2 f fd ["rows", "factor", "more", "at"] spPut := by
  refine F.ok sc_put_times (fun vs H Q E h => ?_) (fun cdv A outer s H vs Q E hr h => ?_)
  · obtain ⟨rl, rv, out, f, m, a, rfl, _⟩ := h
    rfl
  · obtain ⟨rl, rv, out, f, m, a, rfl, hrl, tr, l5, f63, q⟩ := h
    refine ⟨_, (pss_cons (ps_expr (pe_bm PySem.F.plainAttrs_list PySem.F.slot_list_append PySem.F.type_list_append mt_append (pv 0) (pa_cons (pe_tup (pa_cons pe_str (pa_cons (pv 3) (pa_cons (pv 3) pa_nil)))) pa_nil)))
      (pss_one (ps_for PassesOwn.never rfl (pi_enum (by rfl) z.enumerate (pa_cons (pe_cal c_spelled hr (pa_cons (pv 1) pa_nil)) pa_nil)) (pg_tup (by rfl) (pgs_cons (pg_name (i := 4) sc_put_times.nd rfl (.inl rfl)) (pgs_cons (pg_name (i := 5) sc_put_times.nd rfl (.inl rfl)) pgs_nil))) (pss_one (ps_if (pt_cmpR op_ne (pv 5) pe_int (nomark _)) (pss_cons (ps_set (i := 6) sc_put_times.nd rfl (.inl rfl) (pe_op op_sub (pe_callB call_len_seq (by rfl) z.len PySem.boot_len (pa_cons (pv 0) pa_nil)) pe_int))
      (pss_cons (ps_expr (pe_bm PySem.F.plainAttrs_list PySem.F.slot_list_append PySem.F.type_list_append mt_append (pv 0) (pa_cons (pe_tup (pa_cons pe_str (pa_cons (pe_op op_sub (pv 4) (pv 2)) (pa_cons (pv 3) pa_nil)))) pa_nil)))
      (pss_one (ps_expr (pe_bm PySem.F.plainAttrs_list PySem.F.slot_list_append PySem.F.type_list_append mt_append (pv 0) (pa_cons (pe_tup (pa_cons (pe_ifExp (pt_cmpR op_eq (pv 5) pe_int (nomark _)) pe_str pe_str) (pa_cons (pv 6) (pa_cons (pe_op op_add (pv 6) pe_int) pa_nil)))) pa_nil)))))) pss_nil))))), ?_⟩
    have dl := naf_len 63 f f63
    have lo := tr.len
    rw [List.length_map] at lo
    refine ⟨_, rfl, .inl ⟨rfl, _, SqL.of hrl⟩, _, rfl, _, rfl, (by show 3 ≤ sizeLine; decide), fun t ht => ?_⟩
    generalize hG1 : upd _ t _ = G1
    obtain ⟨s1, h_t⟩ := upd_gen hG1 ht
    have hrl1 := s1 _ _ hrl
    refine ⟨rl, _, _, rfl, rfl, hrl1, sl_lt (by omega), ?_⟩
    generalize hG2 : upd _ rl _ = G2
    obtain ⟨s2, h_rl⟩ := upd_but hG2
    have B2 : SameBut rl H G2 := fun b o n e => s2 _ _ n (s1 _ _ e)
    have tr2 : TsAt G2 (rv ++ [.ref t]) ((out ++ [Row.less a a]).map Row.vs) := by
      rw [List.map_append, ← hG2]
      exact TsAt.push hrl1 (tr.same s1) h_t
    have lo2 : (out ++ [Row.less a a]).length = out.length + 1 := by rw [List.length_append]; rfl
    refine ⟨_, rfl, f, rfl, Nat.le_trans f63 (by decide +kernel), fun dp H3 hd0 s3 h_d => ⟨dp, _, rfl, SqL.of h_d, ?_⟩⟩
    have ndp : dp ≠ rl := (ne_of_none h_rl hd0).symm
    refine for_it (walk_enum (K := K) (a := dp) (xs := (naf f).map V.int)) (fun i σ G => ∃ (y4 y5 y6 : Option V) (rv : List V), σ = [some (.ref rl), some (.int f), some (.int (m : Nat)), some (.int (a : Nat)), y4, y5, y6] ∧ SameBut rl H G ∧ G dp = some (.lst ((naf f).map V.int)) ∧ G rl = some (.lst rv) ∧ TsAt G rv ((putD m a (out ++ [Row.less a a]) 0 ((naf f).take i)).map Row.vs)) ⟨none, none, none, _, rfl, fun b o n e => s3 _ _ (B2 _ _ n e), h_d, s3 _ _ h_rl, tr2.same s3⟩ (fun i σ G _ hP => by obtain ⟨y4, y5, y6, rv, rfl, _, hd, _⟩ := hP; exact SqL.of hd) (fun i v σ G G' hi hP hY => ?_) (fun σ G hP => ?_)
    · obtain ⟨y4, y5, y6, rv2, rfl, B, hd, hr, tr3⟩ := hP
      obtain ⟨Tp, u, v', rfl, nT, rfl, e1, e2⟩ := hY
      cases e1
      dsimp only at e2
      rw [List.getElem?_map] at e2
      obtain ⟨d, ed, rfl⟩ := Option.map_eq_some_iff.mp e2
      have sn := same_new (o := .tup [.int (i : Nat), .int d]) nT
      have il := (List.getElem?_eq_some_iff.mp ed).1
      have hr2 := sn _ _ hr
      have hd2 := sn _ _ hd
      have tr4 := tr3.same sn
      have l3 := tr3.len
      rw [List.length_map] at l3
      have bnd := putD_len m a ((naf f).take i) (out ++ [Row.less a a]) 0
      rw [lo2, List.length_take] at bnd
      have nx : putD m a (out ++ [Row.less a a]) 0 ((naf f).take (i + 1)) = putS m a (putD m a (out ++ [Row.less a a]) 0 ((naf f).take i)) i d := by
        rw [List.take_add_one, ed, Option.toList_some, putD_snoc, List.length_take, Nat.min_eq_left (by omega), Nat.zero_add]
      refine ⟨Tp, _, rfl, SqT.of upd_same, rfl, _, _, rfl, _, _, rfl, rfl, ?_⟩
      generalize upd G Tp _ = G5 at *
      have B5 : SameBut rl H G5 := fun b o n e => sn _ _ (B _ _ n e)
      generalize putD m a (out ++ [Row.less a a]) 0 ((naf f).take i) = ou at *
      refine ⟨_, rfl, rfl, _, rfl, iteN (fun c => ?_) (fun c => ?_)⟩
      · refine ⟨_, rfl, rl, _, rfl, .inl (SqL.of hr2), _, _, rfl, rfl, _, rfl, .inl ⟨rfl, _, SqL.of hr2⟩, _, rfl, _, rfl, _, _, rfl, rfl, _, rfl, (by show 3 ≤ sizeLine; decide), fun t1 ht1 => ?_⟩
        generalize hG6 : upd _ t1 _ = G6
        obtain ⟨s6, h_t1⟩ := upd_gen hG6 ht1
        have hr6 := s6 _ _ hr2
        refine ⟨rl, _, _, rfl, rfl, hr6, sl_lt (by omega), ?_⟩
        generalize hG7 : upd _ rl _ = G7
        obtain ⟨s7, h_r7⟩ := upd_but hG7
        have tr7 : TsAt G7 (rv2 ++ [.ref t1]) ((ou ++ [Row.move ((i : Int) - (m : Int)) a]).map Row.vs) := by
          rw [List.map_append, ← hG7]
          exact TsAt.push hr6 (tr4.same s6) h_t1
        refine ⟨_, rfl, .inl ⟨rfl, _, SqL.of h_r7⟩, _, rfl, rfl, _, rfl, ite2 (fun c1 => ?_) (fun c1 => ?_)⟩
        · refine ⟨_, rfl, _, rfl, _, _, rfl, rfl, (by show 3 ≤ sizeLine; decide), fun t2 ht2 => ?_⟩
          generalize hG8 : upd _ t2 _ = G8
          obtain ⟨s8, h_t2⟩ := upd_gen hG8 ht2
          have hr8 := s8 _ _ h_r7
          have e1 : (rv2.length : Int) - 1 = ((ou.length - 1 : Nat) : Int) := by omega
          have e2 : ((ou.length - 1 : Nat) : Int) + 1 = (ou.length : Int) := by omega
          dsimp only at h_t2
          rw [e1, e2] at h_t2
          refine ⟨rl, _, _, rfl, rfl, hr8, sl_lt (by rw [List.length_append]; show _ + 1 ≤ 100000; omega), ?_⟩
          generalize hG9 : upd _ rl _ = G9
          obtain ⟨s9, h_r9⟩ := upd_but hG9
          refine ⟨_, _, _, _, rfl, fun b o n e => s9 _ _ n (s8 _ _ (s7 _ _ n (s6 _ _ (B5 _ _ n e)))), s9 _ _ ndp (s8 _ _ (s7 _ _ ndp (s6 _ _ hd2))), h_r9, ?_⟩
          have e3 : putS m a ou i d = ou ++ [Row.move ((i : Int) - (m : Int)) a] ++ [Row.plus (ou.length - 1) ou.length] := by
            unfold putS
            rw [if_neg (vne c), if_pos (veq (of_decide_eq_true c1)), List.append_assoc]
            rfl
          rw [nx, e3, List.map_append, ← hG9]
          exact TsAt.push hr8 (tr7.same s8) h_t2
        · refine ⟨_, rfl, _, rfl, _, _, rfl, rfl, (by show 3 ≤ sizeLine; decide), fun t2 ht2 => ?_⟩
          generalize hG8 : upd _ t2 _ = G8
          obtain ⟨s8, h_t2⟩ := upd_gen hG8 ht2
          have hr8 := s8 _ _ h_r7
          have e1 : (rv2.length : Int) - 1 = ((ou.length - 1 : Nat) : Int) := by omega
          have e2 : ((ou.length - 1 : Nat) : Int) + 1 = (ou.length : Int) := by omega
          dsimp only at h_t2
          rw [e1, e2] at h_t2
          refine ⟨rl, _, _, rfl, rfl, hr8, sl_lt (by rw [List.length_append]; show _ + 1 ≤ 100000; omega), ?_⟩
          generalize hG9 : upd _ rl _ = G9
          obtain ⟨s9, h_r9⟩ := upd_but hG9
          refine ⟨_, _, _, _, rfl, fun b o n e => s9 _ _ n (s8 _ _ (s7 _ _ n (s6 _ _ (B5 _ _ n e)))), s9 _ _ ndp (s8 _ _ (s7 _ _ ndp (s6 _ _ hd2))), h_r9, ?_⟩
          have e3 : putS m a ou i d = ou ++ [Row.move ((i : Int) - (m : Int)) a] ++ [Row.less (ou.length - 1) ou.length] := by
            unfold putS
            rw [if_neg (vne c), if_neg (vne (of_decide_eq_false (Bool.not_eq_true _ ▸ c1))), List.append_assoc]
            rfl
          rw [nx, e3, List.map_append, ← hG9]
          exact TsAt.push hr8 (tr7.same s8) h_t2
      · have d0 : d = 0 := veq c
        refine ⟨_, _, _, rv2, rfl, B5, hd2, hr2, ?_⟩
        rw [nx, d0]
        exact tr4
    · obtain ⟨y4, y5, y6, rv2, rfl, B, hd, hr, tr3⟩ := hP
      rw [List.length_map, List.take_length] at tr3
      exact q rv2 G B hr tr3
theorem sc_renumbered : FnScope ["row", "forms", "rows", "holds", "word"] ["row", "forms", "rows", "holds"] (defScope s_renumbered) := ⟨rfl, rfl, rfl, by decide +kernel, rfl, by decide +kernel, by decide +kernel⟩
theorem ok_renumbered {f : Addr} {fd : FuncData} {k : Nat} (F : Fun K "renumbered" "renumbered" s_renumbered f fd) : FnOk P w K mg base CX0 (k + 1) f fd ["row", "forms", "rows", "holds"] spRenum := by
  refine F.ok sc_renumbered (fun vs H Q E h => ?_) (fun cdv A outer s H vs Q E hr h => ?_)
  · obtain ⟨ra, fl, pl, hl, r, fc, hc, ps, rfl, _⟩ := h
    rfl
  · obtain ⟨ra, fl, pl, hl, r, fc, hc, ps, rfl, hra, hfl, hpl, hhl, ok, q⟩ := h
    refine ⟨_, (pss_cons (ps_set (i := 4) sc_renumbered.nd rfl (.inl rfl) (pe_ix ix_tup (pv 0) pe_int (fun _ _ => rfl)))
      (pss_cons (ps_if (pt_cmpR op_eq (pv 4) pe_str (nomark _)) (pss_one (ps_ret (pe_tup (pa_cons pe_str (pa_cons (pe_ix ix_list (pv 3) (pe_ix ix_tup (pv 0) pe_int (fun _ _ => rfl)) (fun _ _ => rfl)) pa_nil))))) pss_nil)
      (pss_cons (ps_if (pt_cmpR op_eq (pv 4) pe_str (nomark _)) (pss_one (ps_ret (pe_tup (pa_cons pe_str (pa_cons (pe_ix ix_tup (pv 0) pe_int (fun _ _ => rfl)) (pa_cons (pe_ix ix_tup (pv 0) pe_int (fun _ _ => rfl)) (pa_cons (pe_ix ix_list (pv 2) (pe_ix ix_tup (pv 0) pe_int (fun _ _ => rfl)) (fun _ _ => rfl)) pa_nil))))))) pss_nil)
      (pss_cons (ps_if (pt_cmpR op_eq (pv 4) pe_str (nomark _)) (pss_one (ps_ret (pe_tup (pa_cons pe_str (pa_cons (pe_ix ix_tup (pv 0) pe_int (fun _ _ => rfl)) (pa_cons (pe_ix ix_list (pv 2) (pe_ix ix_tup (pv 0) pe_int (fun _ _ => rfl)) (fun _ _ => rfl)) pa_nil)))))) pss_nil)
      (pss_cons (ps_if (pt_cmpR op_eq (pv 4) pe_str (nomark _)) (pss_one (ps_ret (pe_tup (pa_cons pe_str (pa_cons (pe_ix ix_list (pv 1) (pe_ix ix_tup (pv 0) pe_int (fun _ _ => rfl)) (fun _ _ => rfl)) (pa_cons (pe_ix ix_list (pv 2) (pe_ix ix_tup (pv 0) pe_int (fun _ _ => rfl)) (fun _ _ => rfl)) pa_nil)))))) pss_nil)
      (pss_cons (ps_if (pt_cmpR op_eq (pv 4) pe_str (nomark _)) (pss_one (ps_ret (pv 0))) pss_nil)
      (pss_one (ps_ret (pe_tup (pa_cons (pv 4) (pa_cons (pe_ix ix_list (pv 2) (pe_ix ix_tup (pv 0) pe_int (fun _ _ => rfl)) (fun _ _ => rfl)) (pa_cons (pe_ix ix_list (pv 2) (pe_ix ix_tup (pv 0) pe_int (fun _ _ => rfl)) (fun _ _ => rfl)) pa_nil)))))))))))), ?_⟩
    have qn : ∀ t, H t = none → ∀ G, G = upd H t (.tup (renR ps r).vs) → Q (.ref t) G := fun t ht G e => by
      subst e
      exact q t _ (same_new ht) upd_same
    refine ⟨_, rfl, ra, _, 0, .str r.kd.s, rfl, rfl, SqT.of hra, atI_nat (j := 0) r.vs0, ?_⟩
    match r, ok with
    | .inn, ok => exact ⟨_, rfl, rfl, _, rfl, iteC (d := false) (decide_eq_false (fun z => kd_ne .inn .old (fun z => nomatch z) (V.str.inj z))) (iteF ⟨_, rfl, rfl, _, rfl, iteC (d := false) (decide_eq_false (fun z => kd_ne .inn .times (fun z => nomatch z) (V.str.inj z))) (iteF ⟨_, rfl, rfl, _, rfl, iteC (d := false) (decide_eq_false (fun z => kd_ne .inn .move (fun z => nomatch z) (V.str.inj z))) (iteF ⟨_, rfl, rfl, _, rfl, iteC (d := false) (decide_eq_false (fun z => kd_ne .inn .keep (fun z => nomatch z) (V.str.inj z))) (iteF ⟨_, rfl, rfl, _, rfl, iteC (d := true) (decide_eq_true rfl) (iteT ⟨_, rfl, q ra H (.refl _) hra⟩)⟩)⟩)⟩)⟩)⟩
    | .old k, ok => exact ⟨_, rfl, rfl, _, rfl, iteC (d := true) (decide_eq_true rfl) (iteT ⟨_, rfl, _, rfl, ra, _, 1, .int (k : Nat), rfl, rfl, SqT.of hra, a1, hl, _, _, _, rfl, rfl, SqL.of hhl, rng_at ok, (by show 2 ≤ sizeLine; decide), fun t ht => qn t ht _ rfl⟩)⟩
    | .times f m a, ok => exact ⟨_, rfl, rfl, _, rfl, iteC (d := false) (decide_eq_false (fun z => kd_ne .times .old (fun z => nomatch z) (V.str.inj z))) (iteF ⟨_, rfl, rfl, _, rfl, iteC (d := true) (decide_eq_true rfl) (iteT ⟨_, rfl, ra, _, 1, .int f, rfl, rfl, SqT.of hra, a1, _, rfl, ra, _, 2, .int (m : Nat), rfl, rfl, SqT.of hra, a2, _, rfl, _, rfl, ra, _, 3, .int (a : Nat), rfl, rfl, SqT.of hra, atI_nat (j := 3) rfl, pl, _, _, _, rfl, rfl, SqL.of hpl, nat_at ok.2.2, (by show 4 ≤ sizeLine; decide), fun t ht => qn t ht _ rfl⟩)⟩)⟩
    | .plus a b, ok => exact ⟨_, rfl, rfl, _, rfl, iteC (d := false) (decide_eq_false (fun z => kd_ne .plus .old (fun z => nomatch z) (V.str.inj z))) (iteF ⟨_, rfl, rfl, _, rfl, iteC (d := false) (decide_eq_false (fun z => kd_ne .plus .times (fun z => nomatch z) (V.str.inj z))) (iteF ⟨_, rfl, rfl, _, rfl, iteC (d := false) (decide_eq_false (fun z => kd_ne .plus .move (fun z => nomatch z) (V.str.inj z))) (iteF ⟨_, rfl, rfl, _, rfl, iteC (d := false) (decide_eq_false (fun z => kd_ne .plus .keep (fun z => nomatch z) (V.str.inj z))) (iteF ⟨_, rfl, rfl, _, rfl, iteC (d := false) (decide_eq_false (fun z => kd_ne .plus .inn (fun z => nomatch z) (V.str.inj z))) (iteF ⟨_, rfl, _, rfl, _, rfl, ra, _, 1, .int (a : Nat), rfl, rfl, SqT.of hra, a1, pl, _, _, _, rfl, rfl, SqL.of hpl, nat_at ok.1, _, rfl, _, rfl, ra, _, 2, .int (b : Nat), rfl, rfl, SqT.of hra, a2, pl, _, _, _, rfl, rfl, SqL.of hpl, nat_at ok.2, (by show 3 ≤ sizeLine; decide), fun t ht => qn t ht _ rfl⟩)⟩)⟩)⟩)⟩)⟩
    | .less a b, ok => exact ⟨_, rfl, rfl, _, rfl, iteC (d := false) (decide_eq_false (fun z => kd_ne .less .old (fun z => nomatch z) (V.str.inj z))) (iteF ⟨_, rfl, rfl, _, rfl, iteC (d := false) (decide_eq_false (fun z => kd_ne .less .times (fun z => nomatch z) (V.str.inj z))) (iteF ⟨_, rfl, rfl, _, rfl, iteC (d := false) (decide_eq_false (fun z => kd_ne .less .move (fun z => nomatch z) (V.str.inj z))) (iteF ⟨_, rfl, rfl, _, rfl, iteC (d := false) (decide_eq_false (fun z => kd_ne .less .keep (fun z => nomatch z) (V.str.inj z))) (iteF ⟨_, rfl, rfl, _, rfl, iteC (d := false) (decide_eq_false (fun z => kd_ne .less .inn (fun z => nomatch z) (V.str.inj z))) (iteF ⟨_, rfl, _, rfl, _, rfl, ra, _, 1, .int (a : Nat), rfl, rfl, SqT.of hra, a1, pl, _, _, _, rfl, rfl, SqL.of hpl, nat_at ok.1, _, rfl, _, rfl, ra, _, 2, .int (b : Nat), rfl, rfl, SqT.of hra, a2, pl, _, _, _, rfl, rfl, SqL.of hpl, nat_at ok.2, (by show 3 ≤ sizeLine; decide), fun t ht => qn t ht _ rfl⟩)⟩)⟩)⟩)⟩)⟩
    | .move m a, ok => exact ⟨_, rfl, rfl, _, rfl, iteC (d := false) (decide_eq_false (fun z => kd_ne .move .old (fun z => nomatch z) (V.str.inj z))) (iteF ⟨_, rfl, rfl, _, rfl, iteC (d := false) (decide_eq_false (fun z => kd_ne .move .times (fun z => nomatch z) (V.str.inj z))) (iteF ⟨_, rfl, rfl, _, rfl, iteC (d := true) (decide_eq_true rfl) (iteT ⟨_, rfl, ra, _, 1, .int m, rfl, rfl, SqT.of hra, a1, _, rfl, _, rfl, ra, _, 2, .int (a : Nat), rfl, rfl, SqT.of hra, a2, pl, _, _, _, rfl, rfl, SqL.of hpl, nat_at ok.2, (by show 3 ≤ sizeLine; decide), fun t ht => qn t ht _ rfl⟩)⟩)⟩)⟩
    | .keep f a, ok => exact ⟨_, rfl, rfl, _, rfl, iteC (d := false) (decide_eq_false (fun z => kd_ne .keep .old (fun z => nomatch z) (V.str.inj z))) (iteF ⟨_, rfl, rfl, _, rfl, iteC (d := false) (decide_eq_false (fun z => kd_ne .keep .times (fun z => nomatch z) (V.str.inj z))) (iteF ⟨_, rfl, rfl, _, rfl, iteC (d := false) (decide_eq_false (fun z => kd_ne .keep .move (fun z => nomatch z) (V.str.inj z))) (iteF ⟨_, rfl, rfl, _, rfl, iteC (d := true) (decide_eq_true rfl) (iteT ⟨_, rfl, _, rfl, ra, _, 1, .int (f : Nat), rfl, rfl, SqT.of hra, a1, fl, _, _, _, rfl, rfl, SqL.of hfl, rng_at ok.1, _, rfl, _, rfl, ra, _, 2, .int (a : Nat), rfl, rfl, SqT.of hra, a2, pl, _, _, _, rfl, rfl, SqL.of hpl, nat_at ok.2, (by show 3 ≤ sizeLine; decide), fun t ht => qn t ht _ rfl⟩)⟩)⟩)⟩)⟩
end
end E1

namespace L2
open PySem PySem.Spec PyProof.Rows
section
variable {X : Cx}
/-- list(range(n)) -/
def tLR (ta : TA) : TE := fun σ H Q => ta σ H fun vs H1 => ∃ n : Nat, vs = [.int (n : Nat)] ∧ n ≤ 100000 ∧ ∀ l, H1 l = none → Q (.ref l) (upd H1 l (.lst ((List.range n).map fun i => .int (i : Nat))))
theorem vals_pt : ∀ (xs : List V) (its : List Value), its.length = xs.length → (∀ (j : Nat) (x : V) (v : Value), xs[j]? = some x → its[j]? = some v → RelV x v) → Vals xs its
  | [], [], _, _ => .nil
  | [], _ :: _, h, _ => nomatch h
  | _ :: _, [], h, _ => nomatch h
  | x :: xs, v :: its, h, r => .cons (r 0 x v rfl rfl) (vals_pt xs its (Nat.succ.inj h) fun j y u e1 e2 => r (j + 1) y u e1 e2)
theorem rng_size (n : Nat) : Builtin.Range.rangeSize 0 (n : Int) 1 = (n : Int) := by
  unfold Builtin.Range.rangeSize
  simp
  omega
theorem small_n {n : Nat} (h : n ≤ 100000) : Builtin.Range.small 0 (n : Int) 1 = true := by
  have f : Builtin.Range.rangeFitsLong (n : Int) = true := by
    unfold Builtin.Range.rangeFitsLong
    simp
    omega
  have f0 : Builtin.Range.rangeFitsLong 0 = true := by decide
  have f1 : Builtin.Range.rangeFitsLong 1 = true := by decide
  unfold Builtin.Range.small
  rw [rng_size]
  simp [f, f0, f1]
theorem pe_listRange (hc : X.calm = true) {a : Expr} {ta : TA} {p q pos pos2 : Pos} (gl : Gl X "list") (ml : X.mg "list" = none) (gr : Gl X "range") (mr : X.mg "range" = none) (ha : PA X [a] ta)
    (h1 : starEach [Expr.Call (.Name "range" q) [a] [] pos] X.env = (false, eval (Expr.Call (.Name "range" q) [a] [] pos) X.env) :: starEach [] X.env := by rfl) (h2 : starEach [a] X.env = (false, eval a X.env) :: starEach [] X.env := by rfl)
    (p1 : (backTo pos (starEach [] X.env)).any (·.1) = false := by rfl) (p2 : (backTo pos2 (starEach [] X.env)).any (·.1) = false := by rfl) : PE X (.Call (.Name "list" p) [.Call (.Name "range" q) [a] [] pos] [] pos2) (tLR ta) := by
  refine ⟨fun pins s σ H Q I h => Call_ (ld_blt I gl ml (u := .type "list") (by decide +kernel) (callWith_type1 (spliced_more (Call_ (ld_blt I gr mr (u := .type "range") (by decide +kernel) (callWith_type1 (thn (ha.run pos pins s σ H _ I h) fun us t ⟨vs, G, J, rv, qq⟩ => ?_) h2 p1))) h1) h1 p2))⟩
  obtain ⟨n, rfl, hn, k⟩ := qq
  cases rv with
  | cons r1 rn =>
  cases rn
  obtain ⟨tk, rfl⟩ := id r1
  refine call_range_1 ?_
  show wpAny _ _ (spliced []) _ _ _
  refine Calls.spliced_nil ?_
  refine call_list_range (n := n) (J.ok.hd hc) (Heap.get?_push_size _ rfl) (small_n hn) (rng_size n) (by omega) fun h' tk2 acc c hk hnew items => ?_
  have old : ∀ b o, t.heap.get? b = some o → h'.get? b = some o := fun b o e => hk b o (Heap.get?_push_of_some _ e)
  refine ⟨.ref _, upd G _ (.lst ((List.range n).map fun i => .int (i : Nat))), J.laid (t' := tk2) old ?_ ⟨?_, acc.toList, c, ?_, ?_⟩, rfl, k _ ?_⟩
  · rw [Heap.size_push]
    exact Nat.le_succ _
  · rw [List.length_map, List.length_range]
    show n ≤ sizeLine
    unfold sizeLine
    omega
  · obtain ⟨l, it⟩ := items
    refine vals_pt _ _ (by rw [List.length_map, List.length_range, Array.length_toList, l]) fun j x v e1 e2 => ?_
    rw [List.getElem?_map] at e1
    obtain ⟨i, ei, rfl⟩ := Option.map_eq_some_iff.mp e1
    obtain ⟨li, e3⟩ := List.getElem?_eq_some_iff.mp ei
    rw [List.getElem_range] at e3
    rw [Array.getElem?_toList] at e2
    obtain ⟨t3, rfl⟩ := it j v e2
    refine ⟨t3, ?_⟩
    rw [← e3, Int.mul_one, Int.zero_add]
  · exact hnew
  · refine J.hok.fresh ?_
    rw [Heap.size_push]
    exact Nat.le_succ _
end
end L2

namespace E1
open PySem PySem.Spec PyProof.Rows L2

theorem putS_ok {hc fc m a k : Nat} {d : Int} {out : List Row} (h : ∀ j r, out[j]? = some r → RowOk hc fc j r) (ha : a < out.length) (k63 : k ≤ 63) (m64 : m ≤ 64) : ∀ j r, (putS m a out k d)[j]? = some r → RowOk hc fc j r := by
  unfold putS
  split
  · exact h
  · intro j r e
    rw [show out ++ [Row.move ((k : Int) - (m : Int)) a, if d = 1 then Row.plus (out.length - 1) out.length else .less (out.length - 1) out.length] = out ++ [Row.move ((k : Int) - (m : Int)) a] ++ [if d = 1 then Row.plus (out.length - 1) out.length else .less (out.length - 1) out.length] by rw [List.append_assoc]; rfl] at e
    rcases row_get e with e | ⟨rfl, rfl⟩
    · rcases row_get e with e | ⟨rfl, rfl⟩
      · exact h j r e
      · exact ⟨by omega, ha⟩
    · have l : (out ++ [Row.move ((k : Int) - (m : Int)) a]).length = out.length + 1 := by rw [List.length_append]; rfl
      rw [l]
      split
      · exact ⟨by omega, by omega⟩
      · exact ⟨by omega, by omega⟩
theorem putD_ok {hc fc m a : Nat} (m64 : m ≤ 64) : ∀ (ds : List Int) (out : List Row) (k : Nat), (∀ j r, out[j]? = some r → RowOk hc fc j r) → a < out.length → k + ds.length ≤ 64 → ∀ j r, (putD m a out k ds)[j]? = some r → RowOk hc fc j r
  | [], _, _, h, _, _ => h
  | d :: ds, out, k, h, ha, hk => by
    rw [List.length_cons] at hk
    have l := putD_len m a [d] out k
    exact putD_ok m64 ds (putS m a out k d) (k + 1) (putS_ok h ha (by omega) m64) (Nat.lt_of_lt_of_le ha l.1) (by omega)
theorem outT_len {hc fc i : Nat} {out : List Row} {pl : List Nat} {r : Row} (ro : RowOk hc fc i r) : (outT out pl r).length ≤ out.length + 130 := by
  unfold outT
  split
  · rename_i f m a
    have nl := naf_len 63 f (by have := ro.1; omega)
    have l := (putD_len m (pl.getD a 0) (naf f) (out ++ [.less (pl.getD a 0) (pl.getD a 0)]) 0).2
    rw [List.length_append, List.length_singleton] at l
    omega
  · rw [List.length_append, List.length_singleton]
    omega
section
variable {n : NetP}
theorem spread_many (ok : NetOk n) : ∀ i, i ≤ n.rows.length → (spread (n.rows.take i)).1.length ≤ 130 * i
  | 0, _ => Nat.le_refl _
  | i + 1, h => by
    have er := List.getElem?_eq_getElem (show i < n.rows.length by omega)
    rw [spread_next er]
    have l := outT_len (out := (spread (n.rows.take i)).1) (pl := (spread (n.rows.take i)).2) (ok.ro i _ er)
    have ih := spread_many ok i (by omega)
    show (outT _ _ _).length ≤ _
    omega
theorem spread_ok (ok : NetOk n) : ∀ i, i ≤ n.rows.length → ∀ j r, (spread (n.rows.take i)).1[j]? = some r → RowOk n.holds.length n.fs.length j r
  | 0, _, j, r, e => by cases e
  | i + 1, h, j, r, e => by
    have er := List.getElem?_eq_getElem (show i < n.rows.length by omega)
    rw [spread_next er] at e
    have ih := spread_ok ok i (by omega)
    have ro := ok.ro i _ er
    have lt : ∀ a, a < i → (spread (n.rows.take i)).2.getD a 0 < (spread (n.rows.take i)).1.length := fun a ha => by
      rw [place_pre (by omega) ha]
      exact place_lt (by omega) ha
    replace e : (outT (spread (n.rows.take i)).1 (spread (n.rows.take i)).2 n.rows[i])[j]? = some r := e
    generalize n.rows[i] = r0 at *
    generalize (spread (n.rows.take i)).1 = out at *
    generalize (spread (n.rows.take i)).2 = pl at *
    have new : ∀ r1, outT out pl r0 = out ++ [r1] → RowOk n.holds.length n.fs.length out.length r1 → RowOk n.holds.length n.fs.length j r := fun r1 e1 h1 => by
      rw [e1] at e
      rcases row_get e with e | ⟨rfl, rfl⟩
      · exact ih j r e
      · exact h1
    match r0, ro with
    | .inn, _ => exact new .inn rfl trivial
    | .old k, h => exact new (.old k) rfl h
    | .plus a b, h => exact new _ rfl ⟨lt a h.1, lt b h.2⟩
    | .less a b, h => exact new _ rfl ⟨lt a h.1, lt b h.2⟩
    | .move m a, h => exact new _ rfl ⟨h.1, lt a h.2⟩
    | .keep f a, h => exact new _ rfl ⟨h.1, lt a h.2⟩
    | .times f m a, h =>
      have nl := naf_len 63 f (by have := h.1; omega)
      have la := lt a h.2.2
      refine putD_ok (a := pl.getD a 0) h.2.1 (naf f) (out ++ [Row.less (pl.getD a 0) (pl.getD a 0)]) 0 (fun j r e => ?_) (by rw [List.length_append]; omega) (by omega) j r e
      rcases row_get e with e | ⟨rfl, rfl⟩
      · exact ih j r e
      · exact ⟨la, la⟩
theorem spread_all : spread (n.rows.take n.rows.length) = spread n.rows := by rw [List.take_length]
theorem plain_pre (ok : NetOk n) : NetPre n.plain := by
  have lr : (spread n.rows).1.length ≤ 130 * n.rows.length := by rw [← spread_all]; exact spread_many ok _ (Nat.le_refl _)
  have r60 := ok.r2
  have lt : ∀ a, a < n.rows.length → (spread n.rows).2.getD a 0 < (spread n.rows).1.length := fun a ha => by
    have := place_lt (rows := n.rows) (Nat.le_refl _) ha
    rwa [spread_all] at this
  have lh : n.plain.holds.length = n.holds.length := List.length_map ..
  refine ⟨ok.f1, ok.f2, ok.fo, ok.en, by rw [lh]; exact ok.h2, fun h hh => ?_, Nat.lt_of_le_of_lt (Nat.zero_le _) (lt 0 ok.r1), by show (spread n.rows).1.length ≤ _; omega, fun i r e => ?_, lt n.out ok.out⟩
  · obtain ⟨h0, hm, rfl⟩ := List.mem_map.mp hh
    obtain ⟨k1, k2, a, ea⟩ := ok.ho h0 hm
    exact ⟨k1, k2, _, plain_row ok ea (fun z => nomatch z)⟩
  · rw [lh]
    have := spread_ok ok n.rows.length (Nat.le_refl _) i r
    rw [spread_all] at this
    exact this e
theorem plain_pts : n.plain.pts = ptsOf (fpt n.fs n.en) (hpts n) (n.fs.map (·.pt)) (spread n.rows).1 := by
  show ptsOf _ (hpts n.plain) _ _ = _
  rw [plain_pts_eq]
  rfl
/-- the states are the same -/
theorem plain_behind (ok : NetOk n) (bd : ∀ p ∈ n.plain.pts, -200 ≤ p ∧ p ≤ 200) (x : Int) (st : List Int) : n.plain.behind (n.plain.nums x st) = n.behind (n.nums x st) := by
  rw [plain_pts] at bd
  have e0 : n.plain.nums x st = accL (numRow n.fs (ptsOf (fpt n.fs n.en) (hpts n) (n.fs.map (·.pt)) (spread n.rows).1) x st) (spread n.rows).1 := by
    unfold NetP.nums
    rw [plain_pts]
    rfl
  rw [e0]
  show (n.holds.map _).map _ = n.holds.map _
  rw [List.map_map]
  refine List.map_congr_left fun h hm => ?_
  obtain ⟨k1, _, a, ea⟩ := ok.ho h hm
  have v := plain_val ok bd x st h.l (List.getElem?_eq_some_iff.mp ea).1
  have p3 := plain_row ok ea (fun z => nomatch z)
  have hpl : h.l < n.rows.length := (List.getElem?_eq_some_iff.mp ea).1
  unfold WT at v
  have q1 := fin_pt (en := fpt n.fs n.en) (hp := hpts n) (fp := n.fs.map (·.pt)) ea
  have q2 := fin_pt (en := fpt n.fs n.en) (hp := hpts n) (fp := n.fs.map (·.pt)) p3
  have q3 : (ptsOf (fpt n.fs n.en) (hpts n) (n.fs.map (·.pt)) (spread n.rows).1).getD ((spread n.rows).2.getD h.l 0) 0 = (ptsOf (fpt n.fs n.en) (hpts n) (n.fs.map (·.pt)) n.rows).getD h.l 0 := by
    rw [q1, q2]
    rfl
  rw [q3] at v
  exact (wh_cancel v).symm
end
end E1

namespace E1
open PySem PySem.Spec PyProof.Rows L2
def spOutM (C CN : Addr) : Sp := fun vs H Q _ => ∃ (p : Addr) (n : NetP), vs = [.ref p] ∧ NetAt C CN H p n ∧ Q (.int n.out) H
def spWT (C CN CB : Addr) : Sp := fun vs H Q E => ∃ (p : Addr) (n : NetP), vs = [.ref p] ∧ NetAt C CN H p n ∧
  ((spread n.rows).1.length ≤ 60 → (∀ p ∈ n.plain.pts, -200 ≤ p ∧ p ≤ 200) → ∀ t q pl H', Same H H' → H' t = some (.tup [.ref q, .ref pl]) → NetAt C CN H' q n.plain → H' pl = some (.lst ((spread n.rows).2.map nI)) → Q (.ref t) H') ∧
  (60 < (spread n.rows).1.length → ∀ d H', Same H H' → H d = none → BnAt H' d "rows" .non → E (.ref CB) (some d) H') ∧
  ((spread n.rows).1.length ≤ 60 → ∀ i, FarAt n.plain.pts i → ∀ d H', Same H H' → H d = none → BnAt H' d "rows" (.int i) → E (.ref CB) (some d) H')

theorem make_same2 {G : Hp} {x dx C : Addr} (hx : G x = none) (hdx : G dx = none) (ne : dx ≠ x) : Same G (upd (upd G dx (.own x)) x (.ins C dx [])) :=
  (same_new hdx).trans (same_new (by rw [upd_ne ne.symm]; exact hx))
/-- what stands while rows are spelled -/
structure WI (H G : Hp) (n : NetP) (fl hl ro pl r0 : Addr) (rv : List V) (out : List Row) (ps : List Nat) : Prop where
  sm : Same H G
  f : G fl = some (.lst ((List.range n.fs.length).map nI))
  h : G hl = some (.lst ((List.range n.holds.length).map nI))
  r : G r0 = some (.lst rv)
  t : TsAt G rv (n.rows.map Row.vs)
  o : ∃ ov, G ro = some (.lst ov) ∧ TsAt G ov (out.map Row.vs)
  p : G pl = some (.lst (ps.map nI))
section
variable {H G G' : Hp} {n : NetP} {fl hl ro pl r0 : Addr} {rv : List V} {out out' : List Row} {ps : List Nat}
theorem WI.same (w : WI H G n fl hl ro pl r0 rv out ps) (s : Same G G') : WI H G' n fl hl ro pl r0 rv out ps := by
  obtain ⟨ov, h1, h2⟩ := w.o
  exact ⟨w.sm.trans s, s _ _ w.f, s _ _ w.h, s _ _ w.r, w.t.same s, ⟨ov, s _ _ h1, h2.same s⟩, s _ _ w.p⟩
structure WN (H : Hp) (fl hl ro pl r0 : Addr) : Prop where
  h1 : H ro = none
  h2 : H pl = none
  f : fl ≠ ro
  h : hl ≠ ro
  r : r0 ≠ ro
  p : pl ≠ ro
  f2 : fl ≠ pl
  h3 : hl ≠ pl
  r2 : r0 ≠ pl
theorem WI.rows (w : WI H G n fl hl ro pl r0 rv out ps) (N : WN H fl hl ro pl r0) (s : SameBut ro G G') (o : ∃ ov, G' ro = some (.lst ov) ∧ TsAt G' ov (out'.map Row.vs)) : WI H G' n fl hl ro pl r0 rv out' ps := by
  obtain ⟨ov, h1, h2⟩ := w.o
  exact ⟨fun b x e => s _ _ (ne_of_none e N.h1) (w.sm _ _ e), s _ _ N.f w.f, s _ _ N.h w.h, s _ _ N.r w.r, w.t.but s h1, o, s _ _ N.p w.p⟩
theorem WI.place (w : WI H G n fl hl ro pl r0 rv out ps) (N : WN H fl hl ro pl r0) {p : Nat} : WI H (upd G pl (.lst (ps.map nI ++ [nI p]))) n fl hl ro pl r0 rv out (ps ++ [p]) := by
  obtain ⟨ov, h1, h2⟩ := w.o
  have s : SameBut pl G (upd G pl (.lst (ps.map nI ++ [nI p]))) := SameBut.upd
  exact ⟨fun b x e => s _ _ (ne_of_none e N.h2) (w.sm _ _ e), s _ _ N.f2 w.f, s _ _ N.h3 w.h, s _ _ N.r2 w.r, w.t.but s w.p, ⟨ov, s _ _ N.p.symm h1, h2.but s w.p⟩, by rw [upd_same, List.map_append]; rfl⟩
end
section
variable {P : Program} {w : World} {K : PySem.W.Frag} {mg : Str → Option Value} {base : Heap}
theorem sc_Net_out : FnScope ["self"] ["self"] (defScope s_Net_out) := ⟨rfl, rfl, rfl, by decide +kernel, rfl, by decide +kernel, by decide +kernel⟩
theorem ok_Net_out {f : Addr} {fd : FuncData} {k : Nat} {C CN : Addr} (TN : NTxt K mg CN) (F : Fun K "out" "Net.out" s_Net_out f fd) : FnOk P w K mg base CX0 (k + 1) f fd ["self"] (spOutM C CN) := by
  refine F.ok sc_Net_out (fun vs H Q E h => ?_) (fun cdv A outer s H vs Q E hr h => ?_)
  · obtain ⟨p, n, rfl, _⟩ := h
    rfl
  · obtain ⟨p, n, rfl, ⟨ok, dx, fl, rl, hl2, pl, fv, rv, hv, b⟩, q⟩ := h
    refine ⟨_, (pss_one (ps_ret (pe_fld (pv 0) rfl))), ?_⟩
    exact ⟨_, rfl, p, CN, dx, _, _, rfl, b.ob, TN.cl, TN.n_out_at, nl_o, q⟩
theorem sc_without_times : FnScope ["net", "forms", "holds", "rows", "places", "row", "moved", "form", "word"] ["net"] (defScope s_without_times) := ⟨rfl, rfl, rfl, by decide +kernel, rfl, by decide +kernel, by decide +kernel⟩
theorem ok_without_times {f : Addr} {fd : FuncData} {C CN CB : Addr} (TN : NTxt K mg CN) (F : Fun K "without_times" "without_times" s_without_times f fd) (z : Zs mg) (n_rows : CalM P w K mg base 1 CN "rows" ["self"] (spRowsM C CN)) (n_forms : CalM P w K mg base 1 CN "forms" ["self"] (spFormsM C CN)) (n_holds : CalM P w K mg base 1 CN "holds" ["self"] (spHoldsM C CN)) (n_enters : CalM P w K mg base 1 CN "enters" ["self"] (spEnM C CN)) (n_out : CalM P w K mg base 1 CN "out" ["self"] (spOutM C CN)) (c_Net_5 : CalCX P w K mg base 6 "Net" CN ["self", "forms", "enters", "rows", "holds", "out"] [] (spNetInitR C CN CB)) (c_put_times : Cal P w K mg base 2 "put_times" ["rows", "factor", "more", "at"] spPut) (c_renumbered : Cal P w K mg base 1 "renumbered" ["row", "forms", "rows", "holds"] spRenum) : FnOk P w K mg base (L2.CX P w) 8 f fd ["net"] (spWT C CN CB) := by
  refine F.okX sc_without_times (fun vs H Q E h => ?_) (fun cdv A outer s H vs Q E hr h => ?_)
  · obtain ⟨p, n, rfl, _⟩ := h
    rfl
  · obtain ⟨p, n, rfl, hn, qq, qe, qf⟩ := h
    refine ⟨_, (pss_cons (ps_set (i := 1) sc_without_times.nd rfl (.inl rfl) (pe_listRange rfl (by rfl) z.list (by rfl) z.range (pa_cons (pe_callB call_len_seq (by rfl) z.len PySem.boot_len (pa_cons (pe_calm0 (pv 0) TN.cl n_forms hr) pa_nil)) pa_nil)))
      (pss_cons (ps_set (i := 2) sc_without_times.nd rfl (.inl rfl) (pe_listRange rfl (by rfl) z.list (by rfl) z.range (pa_cons (pe_callB call_len_seq (by rfl) z.len PySem.boot_len (pa_cons (pe_calm0 (pv 0) TN.cl n_holds hr) pa_nil)) pa_nil)))
      (pss_cons (ps_set (i := 3) sc_without_times.nd rfl (.inl rfl) (pe_lst pa_nil))
      (pss_cons (ps_set (i := 4) sc_without_times.nd rfl (.inr rfl) (pe_lst pa_nil))
      (pss_cons (ps_for (passes_of rfl) rfl (pi_list (pe_calm0 (pv 0) TN.cl n_rows hr)) (pg_name (i := 5) sc_without_times.nd rfl (.inl rfl)) (C8.pss_cut (ps_if (pt_cmpR op_eq (pe_ix ix_tup (pv 5) pe_int (fun _ _ => rfl)) pe_str (nomark _)) (pss_one (ps_expr (pe_cal c_put_times hr (pa_cons (pv 3) (pa_cons (pe_ix ix_tup (pv 5) pe_int (fun _ _ => rfl)) (pa_cons (pe_ix ix_tup (pv 5) pe_int (fun _ _ => rfl)) (pa_cons (pe_ix ix_list (pv 4) (pe_ix ix_tup (pv 5) pe_int (fun _ _ => rfl)) (fun _ _ => rfl)) pa_nil))))))) (pss_one (ps_expr (pe_bm PySem.F.plainAttrs_list PySem.F.slot_list_append PySem.F.type_list_append mt_append (pv 3) (pa_cons (pe_cal c_renumbered hr (pa_cons (pv 5) (pa_cons (pv 1) (pa_cons (pv 4) (pa_cons (pv 2) pa_nil))))) pa_nil)))))
      (pss_one (ps_expr (pe_bm PySem.F.plainAttrs_list PySem.F.slot_list_append PySem.F.type_list_append mt_append (pv 4) (pa_cons (pe_op op_sub (pe_callB call_len_seq (by rfl) z.len PySem.boot_len (pa_cons (pv 3) pa_nil)) pe_int) pa_nil))))))
      (pss_cons (ps_setLc (i := 6) (own := [("form", 7), ("word", 8), ("row", 5)]) (g := gTup K 3 (gCons (gName 7) (gCons (gName 8) (gCons (gName 5) gNil)))) (tt := tYes) (te := (tTup (tCons (tVar 7) (tCons (tVar 8) (tCons (tOp (rIxL K) (tVar 4) (tVar 5)) tNil))))) (by rfl) sc_without_times.nd rfl rfl (sw_true rfl rfl rfl (by decide +kernel)) (pi_list (pe_calm0 (pv 0) TN.cl n_holds hr)) (blkOk_by (own := [("form", 7), ("word", 8), ("row", 5)]) (N := ["net", "forms", "holds", "rows", "places", "row", "moved", "form", "word"]) (sc := defScope s_without_times) (by decide +kernel)) (fun _ _ _ _ _ => by exact (pg_tup (by rfl) (pgs_cons (pg_name (i := 7) sc_without_times.nd rfl (.inl rfl)) (pgs_cons (pg_name (i := 8) sc_without_times.nd rfl (.inl rfl)) (pgs_cons (pg_name (i := 5) sc_without_times.nd rfl (.inl rfl)) pgs_nil))))) (fun _ _ _ _ _ => by exact pts_nil) (fun _ _ _ _ _ => by exact (pe_tup (pa_cons (pv 7) (pa_cons (pv 8) (pa_cons (pe_ix ix_list (pv 4) (pv 5) (fun _ _ => rfl)) pa_nil))))))
      (pss_one (ps_ret (pe_tup (pa_cons (pe_calcX c_Net_5 hr (takes_of rfl rfl rfl rfl) (pa_cons (pe_calm0 (pv 0) TN.cl n_forms hr) (pa_cons (pe_calm0 (pv 0) TN.cl n_enters hr) (pa_cons (pv 3) (pa_cons (pv 6) (pa_cons (pe_ix ix_list (pv 4) (pe_calm0 (pv 0) TN.cl n_out hr) (fun _ _ => rfl)) pa_nil)))))) (pa_cons (pv 4) pa_nil))))))))))), ?_⟩
    obtain ⟨ok, dx, _, _, _, _, _, _, _, b⟩ := id hn
    have r60 := ok.r2
    refine ⟨_, rfl, p, dx, _, rfl, b.ob, nl_no (by decide +kernel), p, n, rfl, hn, fun f0 fv G1 hf0 s1 h_f0 hff => ?_⟩
    have lfv := hff.len
    refine ⟨f0, _, rfl, .inl (SqL.of h_f0), fv.length, rfl, by have := ok.f2; omega, fun fl hfl0 => ?_⟩
    rw [lfv]
    generalize hG2 : upd _ fl _ = G2
    obtain ⟨s2, h_fl⟩ := upd_gen hG2 hfl0
    have S2 := s1.trans s2
    refine ⟨_, rfl, p, dx, _, rfl, S2 _ _ b.ob, nl_no (by decide +kernel), p, n, rfl, hn.same S2, fun h0 hv G3 hh0 s3 h_h0 hhh => ?_⟩
    have lhv := hhh.len
    rw [List.length_map] at lhv
    refine ⟨h0, _, rfl, .inl (SqL.of h_h0), hv.length, rfl, by have := ok.h2; omega, fun hl hhl0 => ?_⟩
    rw [lhv]
    generalize hG4 : upd _ hl _ = G4
    obtain ⟨s4, h_hl⟩ := upd_gen hG4 hhl0
    have S4 := S2.trans (s3.trans s4)
    replace h_fl := s4 _ _ (s3 _ _ h_fl)
    refine ⟨(by show 0 ≤ sizeLine; decide), fun ro hro0 => ?_⟩
    generalize hG5 : upd _ ro _ = G5
    obtain ⟨s5, h_ro⟩ := upd_gen hG5 hro0
    refine ⟨(by show 0 ≤ sizeLine; decide), fun pl hpl0 => ?_⟩
    generalize hG6 : upd _ pl _ = G6
    obtain ⟨s6, h_pl⟩ := upd_gen hG6 hpl0
    have S6 := (S4.trans s5).trans s6
    refine ⟨_, rfl, p, dx, _, rfl, S6 _ _ b.ob, nl_no (by decide +kernel), p, n, rfl, hn.same S6, fun r0 rv G7 hr0 s7 h_r0 hrr => ?_⟩
    have N : WN H fl hl ro pl r0 := ⟨S4.free hro0, (S4.trans s5).free hpl0, ne_of_none h_fl hro0, ne_of_none h_hl hro0, (ne_of_none (s6 _ _ h_ro) hr0).symm, (ne_of_none h_ro hpl0).symm, ne_of_none (s5 _ _ h_fl) hpl0, ne_of_none (s5 _ _ h_hl) hpl0, (ne_of_none h_pl hr0).symm⟩
    have W0 : WI H G7 n fl hl ro pl r0 rv [] [] := ⟨S6.trans s7, s7 _ _ (s6 _ _ (s5 _ _ h_fl)), s7 _ _ (s6 _ _ (s5 _ _ h_hl)), h_r0, hrr, ⟨[], s7 _ _ (s6 _ _ h_ro), .nil⟩, s7 _ _ h_pl⟩
    have lrv := hrr.len
    rw [List.length_map] at lrv
    clear s1 s2 s3 s4 s5 s6 s7 S2 S4 S6 h_fl h_hl h_ro h_pl h_r0 hrr hhh hff h_f0 h_h0 hG2 hG4 hG5 hG6 hf0 hh0 hfl0 hhl0 hro0 hpl0 hr0
    refine ⟨r0, rfl, ⟨_, SqL.of W0.r⟩, ?_⟩
    refine for_it (walk_list (K := K) (a := r0) (xs := rv)) (fun i σ G => ∃ (y5 : Option V), σ = [some (.ref p), some (.ref fl), some (.ref hl), some (.ref ro), some (.ref pl), y5, none, none, none] ∧ WI H G n fl hl ro pl r0 rv (spread (n.rows.take i)).1 (spread (n.rows.take i)).2) ⟨none, rfl, W0⟩ (fun i σ G _ hP => by obtain ⟨y5, rfl, W⟩ := hP; exact SqL.of W.r) (fun i v σ G G' hi hP hY => ?_) (fun σ G hP => ?_)
    · obtain ⟨y5, rfl, W⟩ := hP
      obtain ⟨rfl, hx⟩ := hY
      obtain ⟨rp, xs, rfl, ex, hrp⟩ := W.t.get hx
      rw [List.getElem?_map] at ex
      obtain ⟨r, er, rfl⟩ := Option.map_eq_some_iff.mp ex
      have il := (List.getElem?_eq_some_iff.mp er).1
      have ro' := ok.ro i r er
      have nx := spread_next er
      have ls := spread_len (rows := n.rows) i (by omega)
      have lm := spread_many ok i (by omega)
      have lo := outT_len (out := (spread (n.rows.take i)).1) (pl := (spread (n.rows.take i)).2) ro'
      have po := outT_pos (spread (n.rows.take i)).1 (spread (n.rows.take i)).2 r
      generalize (spread (n.rows.take (i + 1))) = nxt at *
      subst nx
      show gName _ _ _ _ _
      generalize spread (n.rows.take i) = sp at *
      obtain ⟨out, ps⟩ := sp
      dsimp only at W ls lm lo po
      refine ⟨fun σ G => σ = [some (.ref p), some (.ref fl), some (.ref hl), some (.ref ro), some (.ref pl), some (.ref rp), none, none, none] ∧ WI H G n fl hl ro pl r0 rv (outT out ps r) ps, ?_, fun σ G hM => ?_⟩
      · refine ⟨_, rfl, rp, _, 0, .str r.kd.s, rfl, rfl, SqT.of hrp, atI_nat (j := 0) r.vs0, rfl, _, rfl, ?_⟩
        obtain ⟨ov, ho, tro⟩ := W.o
        have lov := tro.len
        rw [List.length_map] at lov
        by_cases kt : r.kd = .times
        · refine iteC (d := true) (by rw [kt]; exact decide_eq_true rfl) (iteT ?_)
          obtain ⟨f, m, a, rfl⟩ : ∃ f m a, r = .times f m a := by
            cases r with
            | times f m a => exact ⟨f, m, a, rfl⟩
            | _ => cases kt
          refine ⟨_, rfl, _, rfl, rp, _, 1, .int f, rfl, rfl, SqT.of hrp, a1, _, rfl, rp, _, 2, .int (m : Nat), rfl, rfl, SqT.of hrp, a2, _, rfl, _, rfl, rp, _, 3, .int (a : Nat), rfl, rfl, SqT.of hrp, atI_nat (j := 3) rfl, pl, _, _, _, rfl, rfl, SqL.of W.p, nat_at (show a < ps.length by rw [ls]; exact ro'.2.2), ?_⟩
          refine ⟨ro, ov, out, f, m, ps.getD a 0, rfl, ho, tro, by omega, by have := ro'.1; omega, fun rv2 G2 sb h2 t2 => ?_⟩
          exact ⟨rfl, W.rows N sb ⟨rv2, h2, t2⟩⟩
        · refine iteC (d := false) (decide_eq_false (fun z => kd_ne _ .times kt (V.str.inj z))) (iteF ?_)
          have ho2 : outT out ps r = out ++ [renR ps r] := by
            cases r with
            | times f m a => exact absurd rfl kt
            | _ => rfl
          refine ⟨_, rfl, .inl ⟨rfl, _, SqL.of ho⟩, _, rfl, _, rfl, _, rfl, _, rfl, rp, fl, pl, hl, r, n.fs.length, n.holds.length, ps, rfl, hrp, W.f, W.p, W.h, by rw [ls]; exact ro', fun t G2 s2 h_t => ?_⟩
          have W2 := W.same s2
          have ho3 := s2 _ _ ho
          refine ⟨ro, _, _, rfl, rfl, ho3, sl_lt (by omega), rfl, W2.rows N SameBut.upd ⟨_, upd_same, ?_⟩⟩
          rw [ho2, List.map_append]
          exact TsAt.push ho3 (tro.same s2) h_t
      · obtain ⟨rfl, W2⟩ := hM
        obtain ⟨ov, ho, tro⟩ := W2.o
        have lov := tro.len
        rw [List.length_map] at lov
        refine ⟨_, rfl, .inl ⟨rfl, _, SqL.of W2.p⟩, _, rfl, ro, _, rfl, .inl (SqL.of ho), _, _, rfl, rfl, pl, _, _, rfl, rfl, W2.p, sl_lt (by rw [List.length_map]; omega), ?_⟩
        refine ⟨_, rfl, ?_⟩
        have e1 : (ov.length : Int) - 1 = (((outT out ps r).length - 1 : Nat) : Int) := by omega
        show WI H (upd G pl (.lst (ps.map nI ++ [V.int ((ov.length : Int) - 1)]))) n fl hl ro pl r0 rv (outT out ps r) (ps ++ [(outT out ps r).length - 1])
        rw [e1]
        exact W2.place N
    obtain ⟨y5, rfl, W⟩ := hP
    rw [lrv, spread_all] at W
    have lP : (spread n.rows).2.length = n.rows.length := by
      have := spread_len (rows := n.rows) n.rows.length (Nat.le_refl _)
      rwa [spread_all] at this
    have pre := plain_pre ok
    have SM := W.sm
    refine ⟨_, rfl, p, dx, _, rfl, SM _ _ b.ob, nl_no (by decide +kernel), p, n, rfl, hn.same SM, fun h1 hv1 G1 hh1 s1 h_h1 hhh => ⟨h1, rfl, ⟨_, SqL.of h_h1⟩, fun D hD => ?_⟩⟩
    have lh1 := hhh.len
    rw [List.length_map] at lh1
    have h6 := ok.h2
    refine lc_it (walk_list (K := K) (a := h1) (xs := hv1)) (fun i G2 => Same G1 G2 ∧ ∃ ws, G2 D = some (.lst ws) ∧ TsAt G2 ws ((n.plain.holds.take i).map Hold.vs)) ⟨same_new hD, [], upd_same, .nil⟩ (fun i G2 _ hP => SqL.of (hP.1 _ _ h_h1)) (fun i v G2 G' hi hP hY => ?_) (fun G2 hP => ?_)
    · obtain ⟨s2, ws, hd, tw⟩ := hP
      obtain ⟨rfl, hx⟩ := hY
      obtain ⟨hp2, xs, rfl, ex, hhp2⟩ := hhh.get hx
      rw [List.getElem?_map] at ex
      obtain ⟨hh, eh, rfl⟩ := Option.map_eq_some_iff.mp ex
      obtain ⟨_, _, a, ea⟩ := ok.ho hh (List.mem_of_getElem? eh)
      have ll : hh.l < (spread n.rows).2.length := by rw [lP]; exact (List.getElem?_eq_some_iff.mp ea).1
      have lw := tw.len
      rw [List.length_map, List.length_take] at lw
      refine ⟨hp2, _, rfl, SqT.of (s2 _ _ hhp2), rfl, _, _, rfl, _, _, rfl, _, _, rfl, rfl, rfl, _, rfl, _, rfl, _, rfl, _, rfl, pl, _, _, _, rfl, rfl, SqL.of (s2 _ _ (s1 _ _ W.p)), nat_at ll, (by show 3 ≤ sizeLine; decide), fun t ht => ?_⟩
      generalize hG7 : upd _ t _ = G7
      obtain ⟨s7, h_t⟩ := upd_gen hG7 ht
      have hd7 := s7 _ _ hd
      have e2 : n.plain.holds[i]? = some ⟨hh.k, hh.s, (spread n.rows).2.getD hh.l 0⟩ := by
        show (n.holds.map _)[i]? = _
        rw [List.getElem?_map, eh]
        rfl
      refine ⟨ws, hd7, sl_lt (by omega), fun b o e => ?_, ws ++ [.ref t], upd_same, ?_⟩
      · rw [upd_ne (ne_of_none e hD)]
        exact s7 _ _ (s2 _ _ e)
      · rw [List.take_add_one, e2, Option.toList_some, List.map_append]
        exact TsAt.push hd7 (tw.same s7) h_t
    obtain ⟨s2, ws, hd, tw⟩ := hP
    have lph : n.plain.holds.length = n.holds.length := List.length_map ..
    rw [lh1, ← lph, List.take_length] at tw
    have S2 := SM.trans (s1.trans s2)
    have W2 := W.same (s1.trans s2)
    refine ⟨_, rfl, p, dx, _, rfl, S2 _ _ b.ob, nl_no (by decide +kernel), p, n, rfl, hn.same S2, fun f2 fv2 G3 hf2 s3 h_f2 hff2 => ?_⟩
    have S3 := S2.trans s3
    have W3 := W2.same s3
    obtain ⟨ov, ho, tro⟩ := id W3.o
    refine ⟨_, rfl, p, dx, _, rfl, S3 _ _ b.ob, nl_no (by decide +kernel), p, n, rfl, hn.same S3, _, rfl, _, rfl, _, rfl, _, rfl, p, dx, _, rfl, S3 _ _ b.ob, nl_no (by decide +kernel), p, n, rfl, hn.same S3, pl, _, _, _, rfl, rfl, SqL.of W3.p, nat_at (by rw [lP]; exact ok.out), fun x dx2 hx0 hdx ne => ?_⟩
    have sM := make_same2 (C := CN) hx0 hdx ne
    have SX := S3.trans sM
    refine ⟨x, dx2, f2, ro, D, n.plain, fv2, ov, ws, rfl, upd_same, sM _ _ h_f2, hff2.same sM, sM _ _ ho, tro.same sM, sM _ _ (s3 _ _ hd), (tw.same s3).same sM, pre, fun l60 po H2 hN fr1 => ⟨rfl, ?_⟩, fun big d2 H2 s8 hd2 hbn => qe big d2 H2 (SX.trans s8) (SX.free hd2) hbn, fun l60 i far d2 H2 s8 hd2 hbn => qf l60 i far d2 H2 (SX.trans s8) (SX.free hd2) hbn⟩
    have S4 : Same G3 H2 := fun b o e => fr1 b o (ne_of_none e hx0) (sM _ _ e)
    refine ⟨_, rfl, (by show 2 ≤ sizeLine; decide), fun t ht => ?_⟩
    have sN := same_new (o := .tup [.ref x, .ref pl]) ht
    exact qq l60 po t x pl _ (S3.trans (S4.trans sN)) upd_same (hN.same sN) (sN _ _ (S4 _ _ W3.p))
end
end E1

namespace E1
open PySem PySem.Spec PyProof.Rows L2

def sp2Form : Sp := fun vs H Q _ => ∃ (a wl : Addr) (ws : List (Option Int)) (c : Int), vs = [.ref a, .ref wl] ∧ H wl = some (.lst (ws.map wV)) ∧ 1 ≤ ws.length ∧ ws.length ≤ 100 ∧ (∀ w ∈ ws, WOk w) ∧ WellAt H a c ∧ wl ≠ a ∧ 0 ≤ c ∧ c ≤ 10000 ∧ ∀ (f : FormP) (p : Addr) (H' : Hp), f.Ok → f.w ∈ ws → -4 ≤ f.pt → f.pt ≤ 5 → SameBut a H H' → WellAt H' a (c + 4) → p ≠ a → H p = none → H' p = some (.tup f.vs) → Q (.ref p) H'
def sp2Word : Sp := fun vs H Q _ => ∃ (a p : Addr) (f : FormP) (c : Int), vs = [.ref p, .ref a] ∧ H p = some (.tup f.vs) ∧ f.Ok ∧ WellAt H a c ∧ 0 ≤ c ∧ c ≤ 10000 ∧ ∀ (s : Int) (H' : Hp), inR f.w s = true → s.natAbs < 2 ^ 110 → SameBut a H H' → WellAt H' a (c + 3) → Q (.int s) H'
def sp2Coef : Sp := fun vs H Q _ => ∃ (a : Addr) (c : Int), vs = [.ref a] ∧ WellAt H a c ∧ 0 ≤ c ∧ c ≤ 10000 ∧ ∀ (s : Int) (H' : Hp), s.natAbs < 9223372036854775808 → SameBut a H H' → WellAt H' a (c + 3) → Q (.int s) H'
def sp2Leaf : Sp := fun vs H Q _ => ∃ (a kl : Addr) (ks : List Nat) (c : Int), vs = [.ref a, .ref kl] ∧ H kl = some (.lst (ks.map nI)) ∧ ks.length ≤ 5 ∧ WellAt H a c ∧ 0 ≤ c ∧ c ≤ 10000 ∧ ∀ (r : Row) (p : Addr) (H' : Hp), BegOk ks.length r → SameBut a H H' → WellAt H' a (c + 1) → p ≠ a → H p = none → H' p = some (.tup r.vs) → Q (.ref p) H'
def sp2Begun : Sp := fun vs H Q _ => ∃ (a kl : Addr) (ks : List Nat) (c : Int), vs = [.ref a, .ref kl] ∧ H kl = some (.lst (ks.map nI)) ∧ ks.length ≤ 5 ∧ WellAt H a c ∧ kl ≠ a ∧ 0 ≤ c ∧ c ≤ 9000 ∧ ∀ (rows : List Row) (l : Addr) (H' : Hp), (∀ r ∈ rows, BegOk ks.length r) → 1 ≤ rows.length → rows.length ≤ 8 → SameBut a H H' → WellAt H' a (c + 30) → l ≠ a → H l = none → TL7 H' l (rows.map Row.vs) → Q (.ref l) H'
theorem atI_mem {ws : List V} {r : Int} (h0 : 0 ≤ r) (h1 : r < ws.length) : ∃ v ∈ ws, atI ws r = some v := by
  obtain ⟨n, rfl⟩ : ∃ n : Nat, r = n := ⟨r.toNat, by omega⟩
  have hl : n < ws.length := by omega
  exact ⟨ws[n], List.getElem_mem hl, atI_nat (List.getElem?_eq_getElem hl)⟩
section
variable {P : Program} {w : World} {K : PySem.W.Frag} {mg : Str → Option Value} {base : Heap}
theorem sc__law_form : FnScope ["_law_well_here", "_law_widths", "_law_width", "_law_manner"] ["_law_well_here", "_law_widths"] (defScope s__law_form) := ⟨rfl, rfl, rfl, by decide +kernel, rfl, by decide +kernel, by decide +kernel⟩
theorem ok__law_form {f : Addr} {fd : FuncData} (F : Fun K "_law_form" "_law_form" s__law_form f fd) (z : Zs mg) (c__law_draw : Cal P w K mg base 1 "_law_draw" ["_law_well_here", "_law_many"] spDraw) : FnOk P w K mg base CX0 2 f fd ["_law_well_here", "_law_widths"] sp2Form := by
  refine F.ok sc__law_form (fun vs H Q E h => ?_) (fun cdv A outer s H vs Q E hr h => ?_)
  · obtain ⟨a, wl, ws, c, rfl, _⟩ := h
    rfl
  · obtain ⟨a, wl, ws, c, rfl, hwl, l1, l2, wok, hw, nwa, c0, c1, q⟩ := h
    refine ⟨_, (pss_cons (ps_set (i := 2) sc__law_form.nd rfl (.inl rfl) (pe_ix ix_list (pv 1) (pe_cal c__law_draw hr (pa_cons (pv 0) (pa_cons (pe_callB call_len_seq (by rfl) z.len PySem.boot_len (pa_cons (pv 1) pa_nil)) pa_nil))) (fun _ _ => rfl)))
      (pss_cons (ps_set (i := 3) sc__law_form.nd rfl (.inl rfl) (pe_ix ix_list (pe_lst (pa_cons pe_str (pa_cons pe_str (pa_cons pe_str (pa_cons pe_str (pa_cons pe_str (pa_cons pe_str (pa_cons pe_str pa_nil)))))))) (pe_cal c__law_draw hr (pa_cons (pv 0) (pa_cons pe_int pa_nil))) (fun _ _ => rfl)))
      (pss_one (ps_ret (pe_tup (pa_cons (pv 2) (pa_cons (pe_op op_sub (pe_cal c__law_draw hr (pa_cons (pv 0) (pa_cons pe_int pa_nil))) pe_int) (pa_cons (pv 3) (pa_cons (pe_ix ix_list (pe_lst (pa_cons pe_str (pa_cons pe_str pa_nil))) (pe_cal c__law_draw hr (pa_cons (pv 0) (pa_cons pe_int pa_nil))) (fun _ _ => rfl)) pa_nil))))))))), ?_⟩
    obtain ⟨xs, hxs⟩ := hw.lst
    have lm : (ws.map wV).length = ws.length := List.length_map ..
    refine ⟨_, rfl, _, rfl, _, rfl, wl, _, rfl, .inl (SqL.of hwl), a, c, _, rfl, hw, by omega, by omega, Nat.lt_of_le_of_lt (show _ ≤ 1000 by omega) (by decide +kernel), fun r1 H1 r10 r11 d1 e1 w1 => ?_⟩
    obtain ⟨v, hv, iv⟩ := atI_mem (ws := ws.map wV) r10 r11
    obtain ⟨w, hwm, rfl⟩ := List.mem_map.mp hv
    refine ⟨wl, _, r1, _, rfl, rfl, SqL.of (d1 _ _ nwa hwl), iv, ?_⟩
    refine ⟨(by show 7 ≤ sizeLine; decide), fun l5 hl5 => ?_⟩
    have q5 := same_new (o := .lst [V.str "down", V.str "up", V.str "in", V.str "out", V.str "half", V.str "even", V.str "far"]) hl5
    have n5 := w1.ne hl5
    refine ⟨_, rfl, a, c + 1, 7, rfl, (w1.same q5), by omega, by decide, by decide +kernel, fun r6 H6 r60 r61 d6 e6 w6 => ?_⟩
    obtain ⟨m, hm⟩ := sevenI r60 r61
    refine ⟨l5, _, r6, _, rfl, rfl, SqL.of (d6 _ _ n5 upd_same), hm, ?_⟩
    have D6 : SameBut a H H6 := d1.trans ((SameBut.of q5).trans d6)
    refine ⟨_, rfl, _, rfl, a, c + 1 + 1, 10, rfl, w6, by omega, by decide, by decide +kernel, fun r7 H7 r70 r71 d7 e7 w7 => ⟨_, _, rfl, rfl, _, rfl, (by show 2 ≤ sizeLine; decide), fun l8 hl8 => ?_⟩⟩
    have q8 := same_new (o := .lst [V.str "wrap", V.str "stop"]) hl8
    have n8 := w7.ne hl8
    refine ⟨_, rfl, a, c + 1 + 1 + 1, 2, rfl, (w7.same q8), by omega, by decide, by decide +kernel, fun r9 H9 r90 r91 d9 e9 w9 => ?_⟩
    obtain ⟨st, hst⟩ := endI r90 r91
    refine ⟨l8, _, r9, _, rfl, rfl, SqL.of (d9 _ _ n8 upd_same), hst, (by show 4 ≤ sizeLine; decide), fun p hp => ?_⟩
    have D9 : SameBut a H H9 := D6.trans (d7.trans ((SameBut.of q8).trans d9))
    have np := w9.ne hp
    refine q ⟨w, r7 - 4, m, st⟩ p _ ⟨wok w hwm, by show -64 ≤ r7 - 4; omega, by show r7 - 4 ≤ 64; omega⟩ hwm (by show -4 ≤ r7 - 4; omega) (by show r7 - 4 ≤ 5; omega) (D9.trans (.of (same_new hp))) ((w9.same (same_new hp)).mono (by omega)) np (same_free D9 hxs hp np) upd_same
theorem sc__law_word : FnScope ["_law_form_here", "_law_well_here", "_law_width", "_law_wide", "_law_mid", "_law_way"] ["_law_form_here", "_law_well_here"] (defScope s__law_word) := ⟨rfl, rfl, rfl, by decide +kernel, rfl, by decide +kernel, by decide +kernel⟩
theorem ok__law_word {f : Addr} {fd : FuncData} (F : Fun K "_law_word" "_law_word" s__law_word f fd) (c__law_draw : Cal P w K mg base 1 "_law_draw" ["_law_well_here", "_law_many"] spDraw) : FnOk P w K mg base CX0 2 f fd ["_law_form_here", "_law_well_here"] sp2Word := by
  refine F.ok sc__law_word (fun vs H Q E h => ?_) (fun cdv A outer s H vs Q E hr h => ?_)
  · obtain ⟨a, p, f, c, rfl, _⟩ := h
    rfl
  · obtain ⟨a, p, f, c, rfl, hp, fo, hw, c0, c1, q⟩ := h
    refine ⟨_, (pss_cons (ps_set (i := 2) sc__law_word.nd rfl (.inl rfl) (pe_ix ix_tup (pv 0) pe_int (fun _ _ => rfl)))
      (pss_cons (ps_if (pt_cmpR op_isN (pv 2) pe_non (nomark _)) (pss_cons (ps_set (i := 3) sc__law_word.nd rfl (.inl rfl) (pe_ix ix_list (pe_lst (pa_cons pe_int (pa_cons (pe_op op_pow pe_int pe_int) (pa_cons (pe_op op_pow pe_int pe_int) pa_nil)))) (pe_cal c__law_draw hr (pa_cons (pv 1) (pa_cons pe_int pa_nil))) (fun _ _ => rfl)))
      (pss_one (ps_ret (pe_op op_sub (pe_cal c__law_draw hr (pa_cons (pv 1) (pa_cons (pe_op op_add (pe_op op_mul pe_int (pv 3)) pe_int) pa_nil))) (pv 3))))) pss_nil)
      (pss_cons (ps_set (i := 4) sc__law_word.nd rfl (.inl rfl) (pe_op op_shlW pe_int (pe_op op_sub (pv 2) pe_int)))
      (pss_cons (ps_set (i := 5) sc__law_word.nd rfl (.inl rfl) (pe_cal c__law_draw hr (pa_cons (pv 1) (pa_cons pe_int pa_nil))))
      (pss_cons (ps_if (pt_cmpR op_lt (pv 5) pe_int (nomark _)) (pss_one (ps_ret (pe_ix ix_list (pe_lst (pa_cons (pe_op op_sub pe_int (pv 4)) (pa_cons (pe_op op_sub (pv 4) pe_int) pa_nil))) (pv 5) (fun _ _ => rfl)))) pss_nil)
      (pss_cons (ps_if (pt_cmpR op_gt (pv 2) pe_int (nomark _)) (pss_one (ps_ret (pe_op op_sub (pe_cal c__law_draw hr (pa_cons (pv 1) (pa_cons pe_int pa_nil))) pe_int))) pss_nil)
      (pss_one (ps_ret (pe_op op_sub (pe_cal c__law_draw hr (pa_cons (pv 1) (pa_cons (pe_op op_mul pe_int (pv 4)) pa_nil))) (pv 4)))))))))), ?_⟩
    obtain ⟨w, pt, m, st⟩ := f
    have wo := fo.wo
    refine ⟨_, rfl, p, _, 0, wV w, rfl, rfl, SqT.of hp, a0, ?_⟩
    cases w with
    | none =>
      refine ⟨_, rfl, rfl, _, rfl, iteT ?_⟩
      have b1 : ((10 : Int) ^ (6 : Int).toNat) = 1000000 := by decide
      have b2 : ((10 : Int) ^ (30 : Int).toNat) = 1000000000000000000000000000000 := by decide
      refine ⟨_, _, rfl, rfl, ⟨by decide, by decide, by decide⟩, _, _, rfl, rfl, ⟨by decide, by decide, by decide⟩, (by show 3 ≤ sizeLine; decide), fun l hl => ?_⟩
      have n3 := hw.ne hl
      have q3 := same_new (o := .lst [V.int 10, V.int (10 ^ (6 : Int).toNat), V.int (10 ^ (30 : Int).toNat)]) hl
      refine ⟨_, rfl, a, c, 3, rfl, (hw.same q3), by omega, by decide, by decide +kernel, fun r1 H1 r10 r11 d1 e1 w1 => ?_⟩
      obtain ⟨v, i3, o3⟩ := threeI (x := V.int 10) (y := V.int (10 ^ (6 : Int).toNat)) (z := V.int (10 ^ (30 : Int).toNat)) r10 r11
      obtain ⟨k, rfl, k0, k1⟩ : ∃ k : Int, v = .int k ∧ 1 ≤ k ∧ k ≤ 1000000000000000000000000000000 := by
        rcases o3 with rfl | rfl | rfl
        · exact ⟨_, rfl, by omega, by omega⟩
        · exact ⟨_, rfl, by omega, by omega⟩
        · exact ⟨_, rfl, by omega, by omega⟩
      refine ⟨l, _, r1, _, rfl, rfl, SqL.of (d1 _ _ n3 upd_same), i3, ?_⟩
      refine ⟨_, rfl, _, rfl, _, _, rfl, rfl, .inl ⟨by decide, by decide⟩, _, _, rfl, rfl, a, c + 1, 2 * k + 1, rfl, w1, by omega, by omega, Nat.lt_of_lt_of_le (show _ < 2 ^ 110 by omega) (Nat.pow_le_pow_right (by decide) (by decide)), fun r2 H2 r20 r21 d2 e2 w2 => ⟨_, rfl, _, _, rfl, rfl, ?_⟩⟩
      exact q _ _ rfl (by omega) (((SameBut.of q3).trans d1).trans d2) (w2.mono (by omega))
    | some y =>
      obtain ⟨y0, y1⟩ := wo y rfl
      have rm : (1 : Int) * 2 ^ (y - 1).toNat = two (y - 1) := Int.one_mul _
      have r0 := two_pos (y - 1)
      have rb : (two (y - 1)).natAbs < 2 ^ 64 := by
        unfold two
        exact two_pow_lt (by omega)
      have fin : ∀ s : Int, lst y ≤ s → s ≤ grt y → inR (some y) s = true ∧ s.natAbs < 2 ^ 110 := fun s h0 h1 => by
        refine ⟨by show (decide (lst y ≤ s) && decide (s ≤ grt y)) = true; rw [decide_eq_true h0, decide_eq_true h1]; rfl, ?_⟩
        unfold lst grt at *
        have e : (2 : Nat) ^ 110 = 2 ^ 64 * 70368744177664 := by decide
        rw [e]
        generalize (2 : Nat) ^ 64 = N at *
        omega
      refine ⟨_, rfl, rfl, _, rfl, iteF ⟨_, rfl, _, _, rfl, rfl, _, _, rfl, rfl, ?_, ?_⟩⟩
      · have e : y - 1 = (((y - 1).toNat : Nat) : Int) := by omega
        rw [e]
        exact shl_ok (n := 1) (by decide) (by omega)
      dsimp only
      rw [rm]
      have eg : grt y = two (y - 1) - 1 := rfl
      have el : lst y = -(two (y - 1)) := rfl
      refine ⟨_, rfl, a, c, 8, rfl, hw, by omega, by decide, by decide +kernel, fun r1 H1 r10 r11 d1 e1 w1 => ⟨_, rfl, _, _, rfl, rfl, _, rfl, ite2 (fun lt => ?_) (fun _ => ?_)⟩⟩
      · have r12 : r1 < 2 := toB lt
        refine ⟨_, rfl, _, _, rfl, rfl, _, rfl, _, _, rfl, rfl, (by show 2 ≤ sizeLine; decide), fun l hl => ?_⟩
        have q3 := same_new (o := .lst [V.int (0 - two (y - 1)), V.int (two (y - 1) - 1)]) hl
        obtain ⟨v, i3, o3⟩ := twoI (x := V.int (0 - two (y - 1))) (y := V.int (two (y - 1) - 1)) r10 r12
        obtain ⟨s, rfl, s0, s1⟩ : ∃ s : Int, v = .int s ∧ lst y ≤ s ∧ s ≤ grt y := by
          rcases o3 with rfl | rfl
          · exact ⟨_, rfl, by omega, by omega⟩
          · exact ⟨_, rfl, by omega, by omega⟩
        obtain ⟨g1, g2⟩ := fin s s0 s1
        exact ⟨_, rfl, l, _, r1, _, rfl, rfl, SqL.of upd_same, i3, q s _ g1 g2 (d1.trans (.of q3)) ((w1.same q3).mono (by omega))⟩
      · refine ⟨_, rfl, _, _, rfl, rfl, _, rfl, ite2 (fun gt => ?_) (fun _ => ?_)⟩
        · have y25 : y > 24 := toB gt
          have big : 16777216 ≤ two (y - 1) := by
            unfold two
            have := Nat.pow_le_pow_right (n := 2) (by decide) (show 24 ≤ (y - 1).toNat by omega)
            have h2 : ((2 : Nat) ^ 24 : Nat) = 16777216 := by decide
            rw [h2] at this
            have h3 : ((2 : Int) ^ (y - 1).toNat) = (((2 : Nat) ^ (y - 1).toNat : Nat) : Int) := by
              rw [Int.natCast_pow]
              rfl
            rw [h3]
            omega
          refine ⟨_, rfl, a, c + 1, 2000001, rfl, w1, by omega, by decide, by decide +kernel, fun r2 H2 r20 r21 d2 e2 w2 => ⟨_, _, rfl, rfl, ?_⟩⟩
          obtain ⟨g1, g2⟩ := fin (r2 - 1000000) (by omega) (by omega)
          exact q _ _ g1 g2 (d1.trans d2) (w2.mono (by omega))
        · have bb : (2 * two (y - 1)).natAbs < 2 ^ 66 := by
            have e : (2 : Nat) ^ 66 = 2 ^ 64 * 4 := by decide
            rw [e]
            generalize (2 : Nat) ^ 64 = N at *
            omega
          refine ⟨_, rfl, _, rfl, _, _, rfl, rfl, .inl ⟨by decide, by decide⟩, a, c + 1, 2 * two (y - 1), rfl, w1, by omega, by omega, up bb (by decide), fun r2 H2 r20 r21 d2 e2 w2 => ⟨_, rfl, _, _, rfl, rfl, ?_⟩⟩
          obtain ⟨g1, g2⟩ := fin (r2 - two (y - 1)) (by omega) (by omega)
          exact q _ _ g1 g2 (d1.trans d2) (w2.mono (by omega))

end
end E1

namespace E1
open PySem PySem.Spec PyProof.Rows L2
section
variable {P : Program} {w : World} {K : PySem.W.Frag} {mg : Str → Option Value} {base : Heap}
theorem sc__law_coefficient : FnScope ["_law_well_here", "_law_way", "_law_wide"] ["_law_well_here"] (defScope s__law_coefficient) := ⟨rfl, rfl, rfl, by decide +kernel, rfl, by decide +kernel, by decide +kernel⟩
theorem ok__law_coefficient {f : Addr} {fd : FuncData} (F : Fun K "_law_coefficient" "_law_coefficient" s__law_coefficient f fd) (c__law_draw : Cal P w K mg base 1 "_law_draw" ["_law_well_here", "_law_many"] spDraw) : FnOk P w K mg base CX0 2 f fd ["_law_well_here"] sp2Coef := by
  refine F.ok sc__law_coefficient (fun vs H Q E h => ?_) (fun cdv A outer s H vs Q E hr h => ?_)
  · obtain ⟨a, c, rfl, _⟩ := h
    rfl
  · obtain ⟨a, c, rfl, hw, c0, c1, q⟩ := h
    refine ⟨_, (pss_cons (ps_set (i := 1) sc__law_coefficient.nd rfl (.inl rfl) (pe_cal c__law_draw hr (pa_cons (pv 0) (pa_cons pe_int pa_nil))))
      (pss_cons (ps_if (pt_cmpR op_eq (pv 1) pe_int (nomark _)) (pss_one (ps_ret (pe_op op_mul (pe_op op_sub (pe_op op_sub (pe_op op_pow pe_int pe_int) pe_int) (pe_cal c__law_draw hr (pa_cons (pv 0) (pa_cons (pe_op op_pow pe_int pe_int) pa_nil)))) (pe_op op_sub pe_int (pe_op op_mul pe_int (pe_cal c__law_draw hr (pa_cons (pv 0) (pa_cons pe_int pa_nil)))))))) pss_nil)
      (pss_cons (ps_set (i := 2) sc__law_coefficient.nd rfl (.inl rfl) (pe_ix ix_list (pe_lst (pa_cons pe_int (pa_cons pe_int (pa_cons (pe_op op_pow pe_int pe_int) pa_nil)))) (pv 1) (fun _ _ => rfl)))
      (pss_one (ps_ret (pe_op op_sub (pe_cal c__law_draw hr (pa_cons (pv 0) (pa_cons (pe_op op_add (pe_op op_mul pe_int (pv 2)) pe_int) pa_nil))) (pv 2))))))), ?_⟩
    have e63 : ((2 : Int) ^ (63 : Int).toNat) = 9223372036854775808 := by decide
    have e9 : ((10 : Int) ^ (9 : Int).toNat) = 1000000000 := by decide
    have e6 : ((10 : Int) ^ (6 : Int).toNat) = 1000000 := by decide
    refine ⟨_, rfl, a, c, 4, rfl, hw, by omega, by decide, by decide +kernel, fun r1 H1 r10 r11 d1 e1 w1 => ⟨_, rfl, rfl, _, rfl, ite2 (fun _ => ?_) (fun ne => ?_)⟩⟩
    · refine ⟨_, _, rfl, rfl, ⟨by decide, by decide, by decide⟩, _, _, rfl, rfl, _, rfl, _, _, rfl, rfl, ⟨by decide, by decide, by decide⟩, a, c + 1, 10 ^ (9 : Int).toNat, rfl, w1, by omega, by decide, by decide +kernel, fun r2 H2 r20 r21 d2 e2 w2 => ⟨_, _, rfl, rfl, ?_⟩⟩
      refine ⟨_, rfl, a, c + 1 + 1, 2, rfl, w2, by omega, by decide, by decide +kernel, fun r3 H3 r30 r31 d3 e3 w3 => ⟨_, _, rfl, rfl, .inl ⟨by decide, by decide⟩, _, _, rfl, rfl, _, _, rfl, rfl, .inr ⟨by omega, by omega⟩, ?_⟩⟩
      refine q _ _ ?_ ((d1.trans d2).trans d3) (w3.mono (by omega))
      show ((2 ^ (63 : Int).toNat - 1 - r2) * (1 - 2 * r3)).natAbs < 9223372036854775808
      rcases (by omega : r3 = 0 ∨ r3 = 1) with rfl | rfl
      · omega
      · omega
    · have n3 : r1 ≠ 3 := fun e => toNB ne (by rw [e])
      refine ⟨_, _, rfl, rfl, ⟨by decide, by decide, by decide⟩, (by show 3 ≤ sizeLine; decide), fun l hl => ?_⟩
      have q3 := same_new (o := .lst [V.int 3, V.int 20, V.int (10 ^ (6 : Int).toNat)]) hl
      obtain ⟨v, i3, o3⟩ := threeI (x := V.int 3) (y := V.int 20) (z := V.int (10 ^ (6 : Int).toNat)) r10 (show r1 < 3 by omega)
      obtain ⟨k, rfl, k0, k1⟩ : ∃ k : Int, v = .int k ∧ 1 ≤ k ∧ k ≤ 1000000 := by
        rcases o3 with rfl | rfl | rfl
        · exact ⟨_, rfl, by omega, by omega⟩
        · exact ⟨_, rfl, by omega, by omega⟩
        · exact ⟨_, rfl, by omega, by omega⟩
      refine ⟨_, rfl, l, _, r1, _, rfl, rfl, SqL.of upd_same, i3, ?_⟩
      refine ⟨_, rfl, _, rfl, _, _, rfl, rfl, .inl ⟨by decide, by decide⟩, _, _, rfl, rfl, a, c + 1, 2 * k + 1, rfl, w1.same q3, by omega, by omega, Nat.lt_of_le_of_lt (show _ ≤ 3000000 by omega) (by decide +kernel), fun r2 H2 r20 r21 d2 e2 w2 => ⟨_, rfl, _, _, rfl, rfl, ?_⟩⟩
      exact q _ _ (by omega) ((d1.trans (.of q3)).trans d2) (w2.mono (by omega))
theorem sc__law_leaf : FnScope ["_law_well_here", "_law_held", "_law_at"] ["_law_well_here", "_law_held"] (defScope s__law_leaf) := ⟨rfl, rfl, rfl, by decide +kernel, rfl, by decide +kernel, by decide +kernel⟩
theorem ok__law_leaf {f : Addr} {fd : FuncData} (F : Fun K "_law_leaf" "_law_leaf" s__law_leaf f fd) (z : Zs mg) (c__law_draw : Cal P w K mg base 1 "_law_draw" ["_law_well_here", "_law_many"] spDraw) : FnOk P w K mg base CX0 2 f fd ["_law_well_here", "_law_held"] sp2Leaf := by
  refine F.ok sc__law_leaf (fun vs H Q E h => ?_) (fun cdv A outer s H vs Q E hr h => ?_)
  · obtain ⟨a, kl, ks, c, rfl, _⟩ := h
    rfl
  · obtain ⟨a, kl, ks, c, rfl, hk, k5, hw, c0, c1, q⟩ := h
    refine ⟨_, (pss_cons (ps_set (i := 2) sc__law_leaf.nd rfl (.inl rfl) (pe_cal c__law_draw hr (pa_cons (pv 0) (pa_cons (pe_op op_add (pe_callB call_len_seq (by rfl) z.len PySem.boot_len (pa_cons (pv 1) pa_nil)) pe_int) pa_nil))))
      (pss_one (ps_ret (pe_ix ix_list (pe_lst (pa_cons (pe_tup (pa_cons pe_str pa_nil)) (pa_cons (pe_tup (pa_cons pe_str (pa_cons (pe_op op_sub (pv 2) pe_int) pa_nil))) pa_nil))) (pe_callTy call_int1 (by rfl) z.int (by decide +kernel) (pa_cons (pe_cmpR op_gt (pv 2) pe_int (nomark _)) pa_nil)) (fun _ _ => rfl))))), ?_⟩
    obtain ⟨wxs, hwx⟩ := hw.lst
    have lk : (ks.map nI).length = ks.length := List.length_map ..
    refine ⟨_, rfl, _, rfl, kl, _, rfl, .inl (SqL.of hk), _, _, rfl, rfl, a, c, ((ks.map nI).length : Int) + 1, rfl, hw, by omega, by omega, Nat.lt_of_le_of_lt (show _ ≤ 1000 by omega) (by decide +kernel), fun r3 H3 r30 r31 d3 e3 w3 => ?_⟩
    refine ⟨(by show 1 ≤ sizeLine; decide), fun t1 ht1 => ?_⟩
    generalize hG1 : upd _ t1 _ = G1
    obtain ⟨s1, h_t1⟩ := upd_gen hG1 ht1
    refine ⟨_, rfl, _, _, rfl, rfl, (by show 2 ≤ sizeLine; decide), fun t2 ht2 => ?_⟩
    generalize hG2 : upd _ t2 _ = G2
    obtain ⟨s2, h_t2⟩ := upd_gen hG2 ht2
    refine ⟨(by show 2 ≤ sizeLine; decide), fun l3 hl3 => ?_⟩
    generalize hG3 : upd _ l3 _ = G3
    obtain ⟨s3, h_l3⟩ := upd_gen hG3 hl3
    have S := (s1.trans s2).trans s3
    replace h_t1 := s3 _ _ (s2 _ _ h_t1)
    replace h_t2 := s3 _ _ h_t2
    have n1 := w3.ne ht1
    have n2 := (w3.same s1).ne ht2
    have f1 := same_free d3 hwx ht1 n1
    have f2 := same_free d3 hwx (s1.free ht2) n2
    obtain ⟨r, p, hix, hbr, hpr, np, fp⟩ : ∃ (r : Row) (p : Addr), atI [V.ref t1, V.ref t2] (if decide (r3 > 0) = true then 1 else 0) = some (.ref p) ∧ BegOk ks.length r ∧ G3 p = some (.tup r.vs) ∧ p ≠ a ∧ H p = none := by
      by_cases k : r3 > 0
      · refine ⟨.old (r3 - 1).toNat, t2, by rw [decide_eq_true k]; exact a1, show (r3 - 1).toNat < ks.length by omega, ?_, n2, f2⟩
        rw [h_t2]
        show some (HO.tup [V.str "old", V.int (r3 - 1)]) = some (.tup [.str "old", .int (((r3 - 1).toNat : Nat) : Int)])
        rw [show (((r3 - 1).toNat : Nat) : Int) = r3 - 1 by omega]
      · exact ⟨.inn, t1, by rw [decide_eq_false k]; exact a0, trivial, h_t1, n1, f1⟩
    refine ⟨_, rfl, _, _, rfl, rfl, .inr ⟨_, rfl, l3, _, _, .ref p, rfl, rfl, SqL.of h_l3, hix, ?_⟩⟩
    exact q r p _ hbr (d3.trans (.of S)) (w3.same S) np fp hpr
theorem sc__law_begun : FnScope ["_law_well_here", "_law_held", "_law_k"] ["_law_well_here", "_law_held"] (defScope s__law_begun) := ⟨rfl, rfl, rfl, by decide +kernel, rfl, by decide +kernel, by decide +kernel⟩
theorem ok__law_begun {f : Addr} {fd : FuncData} (F : Fun K "_law_begun" "_law_begun" s__law_begun f fd) (z : Zs mg) (c__law_draw : Cal P w K mg base 1 "_law_draw" ["_law_well_here", "_law_many"] spDraw) (c__law_leaf : Cal P w K mg base 2 "_law_leaf" ["_law_well_here", "_law_held"] sp2Leaf) : FnOk P w K mg base CX0 3 f fd ["_law_well_here", "_law_held"] sp2Begun := by
  refine F.ok sc__law_begun (fun vs H Q E h => ?_) (fun cdv A outer s H vs Q E hr h => ?_)
  · obtain ⟨a, kl, ks, c, rfl, _⟩ := h
    rfl
  · obtain ⟨a, kl, ks, c, rfl, hk, k5, hw, nka, c0, c1, q⟩ := h
    refine ⟨_, (pss_cons (ps_if (pt_cmpR op_eq (pe_cal c__law_draw hr (pa_cons (pv 0) (pa_cons pe_int pa_nil))) pe_int (nomark _)) (pss_one (ps_ret (pe_op op_cat (pe_lst (pa_cons (pe_tup (pa_cons pe_str pa_nil)) pa_nil)) (pe_lc (own := [("_law_k", 2)]) (g := gName 2) (tt := tYes) (te := (tTup (tCons (tC (.str "old")) (tCons (tVar 2) tNil)))) (by rfl) sc__law_begun.nd (pi_range1 (by rfl) z.range (pa_cons (pe_callB call_len_seq (by rfl) z.len PySem.boot_len (pa_cons (pv 1) pa_nil)) pa_nil)) (blkOk_by (own := [("_law_k", 2)]) (N := ["_law_well_here", "_law_held", "_law_k"]) (sc := defScope s__law_begun) (by decide +kernel)) (fun _ _ _ _ _ => by exact (pg_name (i := 2) sc__law_begun.nd rfl (.inl rfl))) (fun _ _ _ _ _ => by exact pts_nil) (fun _ _ _ _ _ => by exact (pe_tup (pa_cons pe_str (pa_cons (pv 2) pa_nil)))))))) pss_nil)
      (pss_one (ps_ret (pe_lc (own := [("_law_k", 2)]) (g := gName 2) (tt := tYes) (te := (tCall sp2Leaf [] E0 (tCons (tVar 0) (tCons (tVar 1) tNil)))) (by rfl) sc__law_begun.nd (pi_range1 (by rfl) z.range (pa_cons (pe_op op_add pe_int (pe_cal c__law_draw hr (pa_cons (pv 0) (pa_cons (pe_op op_add (pe_callB call_len_seq (by rfl) z.len PySem.boot_len (pa_cons (pv 1) pa_nil)) pe_int) pa_nil)))) pa_nil)) (blkOk_by (own := [("_law_k", 2)]) (N := ["_law_well_here", "_law_held", "_law_k"]) (sc := defScope s__law_begun) (by decide +kernel)) (fun _ _ _ _ _ => by exact (pg_name (i := 2) sc__law_begun.nd rfl (.inl rfl))) (fun _ _ _ _ _ => by exact pts_nil) (fun _ _ _ _ _ => by exact (pe_cal c__law_leaf hr (pa_cons (pv 0) (pa_cons (pv 1) pa_nil)))))))), ?_⟩
    obtain ⟨wxs, hwx⟩ := hw.lst
    have lk : (ks.map nI).length = ks.length := List.length_map ..
    refine ⟨_, rfl, a, c, 3, rfl, hw, by omega, by decide, by decide +kernel, fun r1 H1 r10 r11 d1 e1 w1 => ⟨rfl, _, rfl, ite2 (fun _ => ?_) (fun _ => ?_)⟩⟩
    · refine ⟨(by show 1 ≤ sizeLine; decide), fun t ht => ?_⟩
      generalize hG : upd _ t _ = G1
      obtain ⟨s1, h_t⟩ := upd_gen hG ht
      refine ⟨(by show 1 ≤ sizeLine; decide), fun l1 hl1 => ?_⟩
      generalize hG2 : upd _ l1 _ = G2
      obtain ⟨s2, h_l1⟩ := upd_gen hG2 hl1
      refine ⟨_, rfl, kl, _, rfl, .inl (SqL.of ((s1.trans s2) _ _ (d1 _ _ nka hk))), ks.length, by rw [lk], by omega, by omega, fun Dl hD => ?_⟩
      refine lc_it walk_range (fun i G => Same G2 G ∧ ∃ ws, G Dl = some (.lst ws) ∧ ws.length = i ∧ TsAt G ws ((List.range i).map fun k => (Row.old k).vs)) ⟨same_new hD, [], upd_same, rfl, .nil⟩ (fun _ _ _ _ => trivial) (fun i x G G' hi hP hY => ?_) (fun G hP => ?_)
      · obtain ⟨s3, ws, hd, lw, ht3⟩ := hP
        obtain ⟨rfl, rfl⟩ := hY
        refine ⟨rfl, _, rfl, (by show 2 ≤ sizeLine; decide), fun p hp => ?_⟩
        generalize hG3 : upd _ p _ = G3
        obtain ⟨s4, h_p⟩ := upd_gen hG3 hp
        have hd4 := s4 _ _ hd
        refine ⟨ws, hd4, sl_lt (by omega), fun b o e => ?_, _, upd_same, by rw [List.length_append, lw]; rfl, ?_⟩
        · rw [upd_ne (ne_of_none e hD)]
          exact s4 _ _ (s3 _ _ e)
        · rw [range_snoc]
          refine TsAt.push hd4 (ht3.same s4) ?_
          rw [h_p]
          show some (HO.tup [V.str "old", V.int (0 + (i : Int))]) = some (.tup [.str "old", .int (i : Int)])
          rw [Int.zero_add]
      · obtain ⟨s3, ws, hd, lw, ht3⟩ := hP
        refine ⟨l1, Dl, _, _, rfl, rfl, s3 _ _ h_l1, hd, sl_le (by simp only [List.length_singleton]; omega), fun l hl => ?_⟩
        generalize hG3 : upd _ l _ = G3
        obtain ⟨s4, h_l⟩ := upd_gen hG3 hl
        have S : Same H1 G3 := (s1.trans s2).trans (s3.trans s4)
        have w3 := w1.same S
        have nl : l ≠ a := ((w1.same ((s1.trans s2).trans s3))).ne hl
        refine q (.inn :: (List.range ks.length).map Row.old) l _ (fun r hr => ?_) (by simp) (by simp; omega) (d1.trans (.of S)) (w3.mono (by omega)) nl (same_free d1 hwx (((s1.trans s2).trans s3).free hl) nl) ⟨_, h_l, ?_⟩
        · rcases List.mem_cons.mp hr with rfl | hr
          · trivial
          · obtain ⟨k, hk, rfl⟩ := List.mem_map.mp hr
            exact List.mem_range.mp hk
        · refine TsAt.cons (s4 _ _ (s3 _ _ (s2 _ _ h_t))) ?_
          rw [List.map_map]
          exact ht3.same s4
    · refine ⟨_, rfl, _, rfl, kl, _, rfl, .inl (SqL.of (d1 _ _ nka hk)), _, _, rfl, rfl, a, c + 1, ((ks.map nI).length : Int) + 3, rfl, w1, by omega, by omega, Nat.lt_of_le_of_lt (show _ ≤ 1000 by omega) (by decide +kernel), fun r2 H2 r20 r21 d2 e2 w2 => ⟨_, _, rfl, rfl, (1 + r2).toNat, by rw [Int.toNat_of_nonneg (by omega)], by omega, by omega, fun l hl => ?_⟩⟩
      have nl : l ≠ a := w2.ne hl
      have hl0 : H l = none := same_free (d1.trans d2) hwx hl nl
      have hk2 := d2 _ _ nka (d1 _ _ nka hk)
      have nkl := ne_of_none hk2 hl
      refine lc_it walk_range (fun i G => ∃ (rows : List Row) (ws : List V), rows.length = i ∧ (∀ r ∈ rows, BegOk ks.length r) ∧ SameBut a H G ∧ WellAt G a (c + 2 + i) ∧ G l = some (.lst ws) ∧ TsAt G ws (rows.map Row.vs)) ⟨[], [], rfl, (fun r h => nomatch h), (d1.trans d2).trans (.of (same_new hl)), (w2.same (same_new hl)).mono (by omega), upd_same, .nil⟩ (fun _ _ _ _ => trivial) (fun i x G G' hi hP hY => ?_) (fun G hP => ?_)
      · obtain ⟨rows, ws, lr, hb, sb, wl, hd, ht⟩ := hP
        obtain ⟨rfl, rfl⟩ := hY
        have i9 : i < 9 := by omega
        obtain ⟨gxs, hgx⟩ := wl.lst
        have ltw := ht.len
        rw [List.length_map] at ltw
        refine ⟨rfl, _, rfl, _, rfl, a, kl, ks, c + 2 + i, rfl, sb _ _ nka hk, k5, wl, by omega, by omega, fun r p G3 hbr s3 w3 np fp hpr => ?_⟩
        have hd3 := s3 _ _ nl hd
        refine ⟨ws, hd3, sl_lt (by omega), rows ++ [r], _, by rw [List.length_append, lr]; rfl, fun x hx => ?_, fun b o n e => ?_, (w3.but SameBut.upd nl.symm).mono (by omega), upd_same, ?_⟩
        · rcases List.mem_append.mp hx with hx | hx
          · exact hb x hx
          · rw [List.mem_singleton.mp hx]
            exact hbr
        · rw [upd_ne (ne_of_none e hl0)]
          exact s3 _ _ n (sb _ _ n e)
        · rw [List.map_append]
          exact TsAt.push hd3 (ht.but s3 hgx) hpr
      · obtain ⟨rows, ws, lr, hb, sb, wl, hd, ht⟩ := hP
        exact q rows l _ hb (by omega) (by omega) sb (wl.mono (by omega)) nl hl0 ⟨_, hd, ht⟩
end
end E1

namespace E1
open PySem PySem.Spec PyProof.Rows L2

theorem fpt_at {fs : List FormP} {k : Nat} {f : FormP} (h : fs[k]? = some f) : fpt fs k = f.pt := by
  unfold fpt
  rw [List.getD_eq_getElem?_getD, List.getElem?_map, h]
  rfl
def sp2Point : Sp := fun vs H Q _ => ∃ (rp pl fl kl : Addr) (r : Row) (pts : List Int) (fs : List FormP) (en : Nat) (ks : List Nat), vs = [.ref rp, .ref pl, .ref fl, .int en, .ref kl] ∧ H rp = some (.tup r.vs) ∧ H pl = some (.lst (pts.map V.int)) ∧ TL7 H fl (fs.map FormP.vs) ∧ H kl = some (.lst (ks.map nI)) ∧ en < fs.length ∧ (∀ k ∈ ks, k < fs.length) ∧ RowOk ks.length fs.length pts.length r ∧ Q (.int (rowPt (fpt fs en) (ks.map (fpt fs)) (fs.map (·.pt)) pts r)) H
def PtB (pts : List Int) : Row → Prop
  | .times _ m a => pts.getD a 0 + m ≤ 160
  | .move m a => -160 ≤ pts.getD a 0 - m ∧ pts.getD a 0 - m ≤ 160
  | _ => True
def sp2More : Sp := fun vs H Q _ => ∃ (a ml pl fl kl : Addr) (rows : List Row) (pts : List Int) (fs : List FormP) (ks : List Nat) (c : Int), vs = [.ref a, .ref ml, .ref pl, .ref fl, .ref kl] ∧ TL7 H ml (rows.map Row.vs) ∧ H pl = some (.lst (pts.map V.int)) ∧ TL7 H fl (fs.map FormP.vs) ∧ H kl = some (.lst (ks.map nI)) ∧ pts.length = rows.length ∧ 1 ≤ rows.length ∧ rows.length ≤ 60 ∧ 1 ≤ fs.length ∧ fs.length ≤ 12 ∧ ks.length ≤ 5 ∧ (∀ p ∈ pts, -160 ≤ p ∧ p ≤ 160) ∧ WellAt H a c ∧ ml ≠ a ∧ pl ≠ a ∧ fl ≠ a ∧ kl ≠ a ∧ 0 ≤ c ∧ c ≤ 9000 ∧
  ∀ (r : Row) (p : Addr) (H' : Hp), RowOk ks.length fs.length rows.length r → PtB pts r → SameBut a H H' → WellAt H' a (c + 12) → p ≠ a → H p = none → H' p = some (.tup r.vs) → Q (.ref p) H'
theorem ib01 (b : Bool) : -(2 : Int) ^ 64 < (if b = true then (1 : Int) else 0) ∧ (if b = true then (1 : Int) else 0) < 2 ^ 64 := by
  cases b <;> decide
theorem twoN {x y : Int} {r : Int} (h0 : 0 ≤ r) (h1 : r < 2) : ∃ k : Int, atI [V.int x, V.int y] r = some (.int k) ∧ (k = x ∨ k = y) := by
  rcases (by omega : r = 0 ∨ r = 1) with rfl | rfl
  · exact ⟨x, rfl, .inl rfl⟩
  · exact ⟨y, rfl, .inr rfl⟩
section
variable {P : Program} {w : World} {K : PySem.W.Frag} {mg : Str → Option Value} {base : Heap}
theorem sc__law_point : FnScope ["_law_row", "_law_points", "_law_forms", "_law_enters", "_law_held"] ["_law_row", "_law_points", "_law_forms", "_law_enters", "_law_held"] (defScope s__law_point) := ⟨rfl, rfl, rfl, by decide +kernel, rfl, by decide +kernel, by decide +kernel⟩
theorem ok__law_point {f : Addr} {fd : FuncData} {k : Nat} (F : Fun K "_law_point" "_law_point" s__law_point f fd) (z : Zs mg) : FnOk P w K mg base CX0 (k + 1) f fd ["_law_row", "_law_points", "_law_forms", "_law_enters", "_law_held"] sp2Point := by
  refine F.ok sc__law_point (fun vs H Q E h => ?_) (fun cdv A outer s H vs Q E hr h => ?_)
  · obtain ⟨rp, pl, fl, kl, r, pts, fs, en, ks, rfl, _⟩ := h
    rfl
  · obtain ⟨rp, pl, fl, kl, r, pts, fs, en, ks, rfl, hrp, hpl, ⟨fv, hfl, tf⟩, hk, enl, kok, hok, q⟩ := h
    refine ⟨_, (pss_cons (ps_if (pt_cmpR op_eq (pe_ix ix_tup (pv 0) pe_int (fun _ _ => rfl)) pe_str (nomark _)) (pss_one (ps_ret (pe_ix ix_tup (pe_ix ix_list (pv 2) (pv 3) (fun _ _ => rfl)) pe_int (fun _ _ => rfl)))) pss_nil)
      (pss_cons (ps_if (pt_cmpR op_eq (pe_ix ix_tup (pv 0) pe_int (fun _ _ => rfl)) pe_str (nomark _)) (pss_one (ps_ret (pe_ix ix_tup (pe_ix ix_list (pv 2) (pe_ix ix_list (pv 4) (pe_ix ix_tup (pv 0) pe_int (fun _ _ => rfl)) (fun _ _ => rfl)) (fun _ _ => rfl)) pe_int (fun _ _ => rfl)))) pss_nil)
      (pss_cons (ps_if (pt_cmpR op_eq (pe_ix ix_tup (pv 0) pe_int (fun _ _ => rfl)) pe_str (nomark _)) (pss_one (ps_ret (pe_op op_add (pe_ix ix_list (pv 1) (pe_ix ix_tup (pv 0) pe_int (fun _ _ => rfl)) (fun _ _ => rfl)) (pe_ix ix_tup (pv 0) pe_int (fun _ _ => rfl))))) pss_nil)
      (pss_cons (ps_if (pt_cmpR op_eq (pe_ix ix_tup (pv 0) pe_int (fun _ _ => rfl)) pe_str (nomark _)) (pss_one (ps_ret (pe_op op_sub (pe_ix ix_list (pv 1) (pe_ix ix_tup (pv 0) pe_int (fun _ _ => rfl)) (fun _ _ => rfl)) (pe_ix ix_tup (pv 0) pe_int (fun _ _ => rfl))))) pss_nil)
      (pss_cons (ps_if (pt_cmpR op_eq (pe_ix ix_tup (pv 0) pe_int (fun _ _ => rfl)) pe_str (nomark _)) (pss_one (ps_ret (pe_ix ix_tup (pe_ix ix_list (pv 2) (pe_ix ix_tup (pv 0) pe_int (fun _ _ => rfl)) (fun _ _ => rfl)) pe_int (fun _ _ => rfl)))) pss_nil)
      (pss_one (ps_ret (pe_callB (call_max2 rfl) (by rfl) z.max (by decide +kernel) (pa_cons (pe_ix ix_list (pv 1) (pe_ix ix_tup (pv 0) pe_int (fun _ _ => rfl)) (fun _ _ => rfl)) (pa_cons (pe_ix ix_list (pv 1) (pe_ix ix_tup (pv 0) pe_int (fun _ _ => rfl)) (fun _ _ => rfl)) pa_nil)))))))))), ?_⟩
    match r, hrp, hok, q with
    | .inn, hrp, _, q =>
      have ef := List.getElem?_eq_getElem enl
      obtain ⟨p, ep, hp'⟩ := tf.at (i := en) (xs := (fs[en]'enl).vs) (by rw [List.getElem?_map, ef]; rfl)
      have epf := fpt_at ef
      refine ⟨_, rfl, rp, _, 0, .str _, rfl, rfl, SqT.of hrp, a0, rfl, _, rfl, iteC (d := true) (decide_eq_true rfl) (iteT ⟨_, rfl, _, rfl, fl, _, _, .ref p, rfl, rfl, SqL.of hfl, atI_nat ep, p, _, 1, .int _, rfl, rfl, SqT.of hp', a1, ?_⟩)⟩
      have : rowPt (fpt fs en) (ks.map (fpt fs)) (fs.map (·.pt)) pts .inn = (fs[en]).pt := epf
      rwa [this] at q
    | .old j, hrp, hok, q =>
      have hj : j < ks.length := hok
      have ej := List.getElem?_eq_getElem hj
      have kl2 := kok _ (List.getElem_mem hj)
      have ef := List.getElem?_eq_getElem kl2
      obtain ⟨p, ep, hp'⟩ := tf.at (i := ks[j]) (xs := (fs[ks[j]]'kl2).vs) (by rw [List.getElem?_map, ef]; rfl)
      have epf := fpt_at ef
      refine ⟨_, rfl, rp, _, 0, .str _, rfl, rfl, SqT.of hrp, a0, rfl, _, rfl, iteC (d := false) (decide_eq_false (fun z => absurd (V.str.inj z) (by decide +kernel))) (iteF ⟨_, rfl, rp, _, 0, .str _, rfl, rfl, SqT.of hrp, a0, rfl, _, rfl, iteC (d := true) (decide_eq_true rfl) (iteT ⟨_, rfl, _, rfl, _, rfl, rp, _, 1, _, rfl, rfl, SqT.of hrp, a1, kl, _, _, .int (ks[j] : Nat), rfl, rfl, SqL.of hk, atI_nat (by rw [List.getElem?_map, ej]; rfl), fl, _, _, .ref p, rfl, rfl, SqL.of hfl, atI_nat ep, p, _, 1, .int _, rfl, rfl, SqT.of hp', a1, ?_⟩)⟩)⟩
      have : rowPt (fpt fs en) (ks.map (fpt fs)) (fs.map (·.pt)) pts (.old j) = (fs[ks[j]]'kl2).pt := by
        show (ks.map (fpt fs)).getD j 0 = _
        rw [List.getD_eq_getElem?_getD, List.getElem?_map, ej]
        exact epf
      rwa [this] at q
    | .keep f x, hrp, hok, q =>
      have kl2 := hok.1
      have ef := List.getElem?_eq_getElem kl2
      obtain ⟨p, ep, hp'⟩ := tf.at (i := f) (xs := (fs[f]'kl2).vs) (by rw [List.getElem?_map, ef]; rfl)
      have epf := fpt_at ef
      refine ⟨_, rfl, rp, _, 0, .str _, rfl, rfl, SqT.of hrp, a0, rfl, _, rfl, iteC (d := false) (decide_eq_false (fun z => absurd (V.str.inj z) (by decide +kernel))) (iteF ⟨_, rfl, rp, _, 0, .str _, rfl, rfl, SqT.of hrp, a0, rfl, _, rfl, iteC (d := false) (decide_eq_false (fun z => absurd (V.str.inj z) (by decide +kernel))) (iteF ⟨_, rfl, rp, _, 0, .str _, rfl, rfl, SqT.of hrp, a0, rfl, _, rfl, iteC (d := false) (decide_eq_false (fun z => absurd (V.str.inj z) (by decide +kernel))) (iteF ⟨_, rfl, rp, _, 0, .str _, rfl, rfl, SqT.of hrp, a0, rfl, _, rfl, iteC (d := false) (decide_eq_false (fun z => absurd (V.str.inj z) (by decide +kernel))) (iteF ⟨_, rfl, rp, _, 0, .str _, rfl, rfl, SqT.of hrp, a0, rfl, _, rfl, iteC (d := true) (decide_eq_true rfl) (iteT ⟨_, rfl, _, rfl, rp, _, 1, _, rfl, rfl, SqT.of hrp, a1, fl, _, _, .ref p, rfl, rfl, SqL.of hfl, atI_nat ep, p, _, 1, .int _, rfl, rfl, SqT.of hp', a1, ?_⟩)⟩)⟩)⟩)⟩)⟩
      have : rowPt (fpt fs en) (ks.map (fpt fs)) (fs.map (·.pt)) pts (.keep f x) = (fs[f]'kl2).pt := epf
      rwa [this] at q
    | .times f m x, hrp, hok, q => exact ⟨_, rfl, rp, _, 0, .str _, rfl, rfl, SqT.of hrp, a0, rfl, _, rfl, iteC (d := false) (decide_eq_false (fun z => absurd (V.str.inj z) (by decide +kernel))) (iteF ⟨_, rfl, rp, _, 0, .str _, rfl, rfl, SqT.of hrp, a0, rfl, _, rfl, iteC (d := false) (decide_eq_false (fun z => absurd (V.str.inj z) (by decide +kernel))) (iteF ⟨_, rfl, rp, _, 0, .str _, rfl, rfl, SqT.of hrp, a0, rfl, _, rfl, iteC (d := true) (decide_eq_true rfl) (iteT ⟨_, rfl, _, rfl, rp, _, 3, _, rfl, rfl, SqT.of hrp, atI_nat (j := 3) rfl, pl, _, _, _, rfl, rfl, SqL.of hpl, ints_at hok.2.2, _, rfl, rp, _, 2, _, rfl, rfl, SqT.of hrp, a2, _, _, rfl, rfl, q⟩)⟩)⟩)⟩
    | .move m x, hrp, hok, q => exact ⟨_, rfl, rp, _, 0, .str _, rfl, rfl, SqT.of hrp, a0, rfl, _, rfl, iteC (d := false) (decide_eq_false (fun z => absurd (V.str.inj z) (by decide +kernel))) (iteF ⟨_, rfl, rp, _, 0, .str _, rfl, rfl, SqT.of hrp, a0, rfl, _, rfl, iteC (d := false) (decide_eq_false (fun z => absurd (V.str.inj z) (by decide +kernel))) (iteF ⟨_, rfl, rp, _, 0, .str _, rfl, rfl, SqT.of hrp, a0, rfl, _, rfl, iteC (d := false) (decide_eq_false (fun z => absurd (V.str.inj z) (by decide +kernel))) (iteF ⟨_, rfl, rp, _, 0, .str _, rfl, rfl, SqT.of hrp, a0, rfl, _, rfl, iteC (d := true) (decide_eq_true rfl) (iteT ⟨_, rfl, _, rfl, rp, _, 2, _, rfl, rfl, SqT.of hrp, a2, pl, _, _, _, rfl, rfl, SqL.of hpl, ints_at hok.2, _, rfl, rp, _, 1, _, rfl, rfl, SqT.of hrp, a1, _, _, rfl, rfl, q⟩)⟩)⟩)⟩)⟩
    | .plus x y, hrp, hok, q => exact ⟨_, rfl, rp, _, 0, .str _, rfl, rfl, SqT.of hrp, a0, rfl, _, rfl, iteC (d := false) (decide_eq_false (fun z => absurd (V.str.inj z) (by decide +kernel))) (iteF ⟨_, rfl, rp, _, 0, .str _, rfl, rfl, SqT.of hrp, a0, rfl, _, rfl, iteC (d := false) (decide_eq_false (fun z => absurd (V.str.inj z) (by decide +kernel))) (iteF ⟨_, rfl, rp, _, 0, .str _, rfl, rfl, SqT.of hrp, a0, rfl, _, rfl, iteC (d := false) (decide_eq_false (fun z => absurd (V.str.inj z) (by decide +kernel))) (iteF ⟨_, rfl, rp, _, 0, .str _, rfl, rfl, SqT.of hrp, a0, rfl, _, rfl, iteC (d := false) (decide_eq_false (fun z => absurd (V.str.inj z) (by decide +kernel))) (iteF ⟨_, rfl, rp, _, 0, .str _, rfl, rfl, SqT.of hrp, a0, rfl, _, rfl, iteC (d := false) (decide_eq_false (fun z => absurd (V.str.inj z) (by decide +kernel))) (iteF ⟨_, rfl, _, rfl, rp, _, 1, _, rfl, rfl, SqT.of hrp, a1, pl, _, _, _, rfl, rfl, SqL.of hpl, ints_at hok.1, _, rfl, _, rfl, rp, _, 2, _, rfl, rfl, SqT.of hrp, a2, pl, _, _, _, rfl, rfl, SqL.of hpl, ints_at hok.2, _, _, rfl, q⟩)⟩)⟩)⟩)⟩)⟩
    | .less x y, hrp, hok, q => exact ⟨_, rfl, rp, _, 0, .str _, rfl, rfl, SqT.of hrp, a0, rfl, _, rfl, iteC (d := false) (decide_eq_false (fun z => absurd (V.str.inj z) (by decide +kernel))) (iteF ⟨_, rfl, rp, _, 0, .str _, rfl, rfl, SqT.of hrp, a0, rfl, _, rfl, iteC (d := false) (decide_eq_false (fun z => absurd (V.str.inj z) (by decide +kernel))) (iteF ⟨_, rfl, rp, _, 0, .str _, rfl, rfl, SqT.of hrp, a0, rfl, _, rfl, iteC (d := false) (decide_eq_false (fun z => absurd (V.str.inj z) (by decide +kernel))) (iteF ⟨_, rfl, rp, _, 0, .str _, rfl, rfl, SqT.of hrp, a0, rfl, _, rfl, iteC (d := false) (decide_eq_false (fun z => absurd (V.str.inj z) (by decide +kernel))) (iteF ⟨_, rfl, rp, _, 0, .str _, rfl, rfl, SqT.of hrp, a0, rfl, _, rfl, iteC (d := false) (decide_eq_false (fun z => absurd (V.str.inj z) (by decide +kernel))) (iteF ⟨_, rfl, _, rfl, rp, _, 1, _, rfl, rfl, SqT.of hrp, a1, pl, _, _, _, rfl, rfl, SqL.of hpl, ints_at hok.1, _, rfl, _, rfl, rp, _, 2, _, rfl, rfl, SqT.of hrp, a2, pl, _, _, _, rfl, rfl, SqL.of hpl, ints_at hok.2, _, _, rfl, q⟩)⟩)⟩)⟩)⟩)⟩
theorem sc__law_one_more : FnScope ["_law_well_here", "_law_rows", "_law_points", "_law_forms", "_law_held", "_law_kind", "_law_i", "_law_j", "_law_wide"] ["_law_well_here", "_law_rows", "_law_points", "_law_forms", "_law_held"] (defScope s__law_one_more) := ⟨rfl, rfl, rfl, by decide +kernel, rfl, by decide +kernel, by decide +kernel⟩
theorem ok__law_one_more {f : Addr} {fd : FuncData} (F : Fun K "_law_one_more" "_law_one_more" s__law_one_more f fd) (z : Zs mg) (c__law_draw : Cal P w K mg base 1 "_law_draw" ["_law_well_here", "_law_many"] spDraw) (c__law_coefficient : Cal P w K mg base 2 "_law_coefficient" ["_law_well_here"] sp2Coef) (c__law_leaf : Cal P w K mg base 2 "_law_leaf" ["_law_well_here", "_law_held"] sp2Leaf) : FnOk P w K mg base CX0 3 f fd ["_law_well_here", "_law_rows", "_law_points", "_law_forms", "_law_held"] sp2More := by
  refine F.ok sc__law_one_more (fun vs H Q E h => ?_) (fun cdv A outer s H vs Q E hr h => ?_)
  · obtain ⟨a, ml, pl, fl, kl, rows, pts, fs, ks, c, rfl, _⟩ := h
    rfl
  · obtain ⟨a, ml, pl, fl, kl, rows, pts, fs, ks, c, rfl, ⟨mv, hml, tm⟩, hpl, ⟨fv, hfl, tf⟩, hkl, lpt, r1, r60, f1, f12, k5, pbd, hw, nma, npa, nfa, nka, c0, c1, q⟩ := h
    refine ⟨_, (pss_cons (ps_set (i := 5) sc__law_one_more.nd rfl (.inl rfl) (pe_cal c__law_draw hr (pa_cons (pv 0) (pa_cons pe_int pa_nil))))
      (pss_cons (ps_set (i := 6) sc__law_one_more.nd rfl (.inl rfl) (pe_op op_sub (pe_op op_sub (pe_callB call_len_seq (by rfl) z.len PySem.boot_len (pa_cons (pv 1) pa_nil)) pe_int) (pe_cal c__law_draw hr (pa_cons (pv 0) (pa_cons (pe_ix ix_list (pe_lst (pa_cons pe_int (pa_cons (pe_callB call_len_seq (by rfl) z.len PySem.boot_len (pa_cons (pv 1) pa_nil)) pa_nil))) (pe_cal c__law_draw hr (pa_cons (pv 0) (pa_cons pe_int pa_nil))) (fun _ _ => rfl)) pa_nil)))))
      (pss_cons (ps_set (i := 7) sc__law_one_more.nd rfl (.inl rfl) (pe_cal c__law_draw hr (pa_cons (pv 0) (pa_cons (pe_callB call_len_seq (by rfl) z.len PySem.boot_len (pa_cons (pv 1) pa_nil)) pa_nil))))
      (pss_cons (ps_set (i := 8) sc__law_one_more.nd rfl (.inl rfl) (pe_ix ix_list (pe_lst (pa_cons pe_int (pa_cons pe_int pa_nil))) (pe_op op_fdiv (pe_cal c__law_draw hr (pa_cons (pv 0) (pa_cons pe_int pa_nil))) pe_int) (fun _ _ => rfl)))
      (pss_cons (ps_if (pt_cmpR op_lt (pv 5) pe_int (nomark _)) (pss_one (ps_ret (pe_tup (pa_cons pe_str (pa_cons (pe_cal c__law_coefficient hr (pa_cons (pv 0) pa_nil)) (pa_cons (pe_op op_mul (pe_cal c__law_draw hr (pa_cons (pv 0) (pa_cons (pv 8) pa_nil))) (pe_callTy call_int1 (by rfl) z.int (by decide +kernel) (pa_cons (pe_cmpR op_lt (pe_ix ix_list (pv 2) (pv 6) (fun _ _ => rfl)) pe_int (nomark _)) pa_nil))) (pa_cons (pv 6) pa_nil))))))) pss_nil)
      (pss_cons (ps_if (pt_cmpR op_lt (pv 5) pe_int (nomark _)) (pss_one (ps_ret (pe_tup (pa_cons (pe_ix ix_list (pe_lst (pa_cons pe_str (pa_cons pe_str (pa_cons pe_str pa_nil)))) (pe_op op_sub (pv 5) pe_int) (fun _ _ => rfl)) (pa_cons (pv 6) (pa_cons (pv 7) pa_nil)))))) pss_nil)
      (pss_cons (ps_if (pt_cmpR op_eq (pv 5) pe_int (nomark _)) (pss_one (ps_ret (pe_tup (pa_cons pe_str (pa_cons (pe_op op_mul (pe_op op_add (pe_op op_sub (pe_cal c__law_draw hr (pa_cons (pv 0) (pa_cons (pe_op op_sub (pe_op op_mul pe_int (pv 8)) pe_int) pa_nil))) (pv 8)) pe_int) (pe_callTy call_int1 (by rfl) z.int (by decide +kernel) (pa_cons (pe_cmpR op_lt (pe_callB call_abs (by rfl) z.abs (by decide +kernel) (pa_cons (pe_ix ix_list (pv 2) (pv 6) (fun _ _ => rfl)) pa_nil)) pe_int (nomark _)) pa_nil))) (pa_cons (pv 6) pa_nil)))))) pss_nil)
      (pss_cons (ps_if (pt_cmpR op_eq (pv 5) pe_int (nomark _)) (pss_one (ps_ret (pe_cal c__law_leaf hr (pa_cons (pv 0) (pa_cons (pv 4) pa_nil))))) pss_nil)
      (pss_one (ps_ret (pe_tup (pa_cons pe_str (pa_cons (pe_cal c__law_draw hr (pa_cons (pv 0) (pa_cons (pe_callB call_len_seq (by rfl) z.len PySem.boot_len (pa_cons (pv 3) pa_nil)) pa_nil))) (pa_cons (pv 6) pa_nil)))))))))))))), ?_⟩
    obtain ⟨wxs, hwx⟩ := hw.lst
    have lmv := tm.rlen
    have lfv := tf.len
    rw [List.length_map] at lfv
    refine ⟨_, rfl, a, c, 9, rfl, hw, by omega, by decide, by decide +kernel, fun r1 H1 r10 r11 d1 e1 w1 => ?_⟩
    have hml1 := d1 _ _ nma hml
    refine ⟨_, rfl, ml, _, rfl, .inl (SqL.of hml1), _, _, rfl, rfl, _, rfl, _, rfl, ml, _, rfl, .inl (SqL.of hml1), (by show 2 ≤ sizeLine; decide), fun l2 hl2 => ?_⟩
    generalize hG2 : upd _ l2 _ = G2
    obtain ⟨s2, h_l2⟩ := upd_gen hG2 hl2
    refine ⟨_, rfl, a, c + 1, 2, rfl, (w1.same s2), by omega, by decide, by decide +kernel, fun r3 H3 r30 r31 d3 e3 w3 => ?_⟩
    obtain ⟨k, ik, ok⟩ := twoN (x := 1) (y := (mv.length : Int)) r30 r31
    have k1 : 1 ≤ k ∧ k ≤ mv.length := by
      rcases ok with rfl | rfl
      · omega
      · omega
    refine ⟨l2, _, r3, _, rfl, rfl, SqL.of (d3 _ _ (w1.ne hl2) h_l2), ik, ?_⟩
    refine ⟨a, c + 1 + 1, k, rfl, w3, by omega, by omega, Nat.lt_of_le_of_lt (show _ ≤ 1000 by omega) (by decide +kernel), fun r4 H4 r40 r41 d4 e4 w4 => ⟨_, _, rfl, rfl, ?_⟩⟩
    have D4 : SameBut a H H4 := d1.trans ((SameBut.of s2).trans (d3.trans d4))
    obtain ⟨i, ei⟩ : ∃ i : Nat, (mv.length : Int) - 1 - r4 = i := ⟨((mv.length : Int) - 1 - r4).toNat, by omega⟩
    have il : i < rows.length := by omega
    have hml4 := D4 _ _ nma hml
    refine ⟨_, rfl, _, rfl, ml, _, rfl, .inl (SqL.of hml4), a, c + 1 + 1 + 1, (mv.length : Int), rfl, w4, by omega, by omega, Nat.lt_of_le_of_lt (show _ ≤ 1000 by omega) (by decide +kernel), fun r5 H5 r50 r51 d5 e5 w5 => ?_⟩
    obtain ⟨j, rfl⟩ : ∃ j : Nat, r5 = j := ⟨r5.toNat, by omega⟩
    have jl : j < rows.length := by omega
    refine ⟨(by show 2 ≤ sizeLine; decide), fun l6 hl6 => ?_⟩
    generalize hG6 : upd _ l6 _ = G6
    obtain ⟨s6, h_l6⟩ := upd_gen hG6 hl6
    refine ⟨_, rfl, a, c + 1 + 1 + 1 + 1, 8, rfl, (w5.same s6), by omega, by decide, by decide +kernel, fun r7 H7 r70 r71 d7 e7 w7 => ⟨_, _, rfl, rfl, ⟨by decide, by decide⟩, ?_⟩⟩
    obtain ⟨wd, iw, ow⟩ := twoN (x := 6) (y := 65) (r := r7 / 7) (Int.ediv_nonneg r70 (by decide)) (by omega)
    have wd1 : 6 ≤ wd ∧ wd ≤ 65 := by
      rcases ow with rfl | rfl <;> omega
    refine ⟨l6, _, _, _, rfl, rfl, SqL.of (d7 _ _ (w5.ne hl6) h_l6), iw, ?_⟩
    have D7 : SameBut a H H7 := D4.trans (d5.trans ((SameBut.of s6).trans d7))
    clear d1 d3 d4 d5 d7 e1 e3 e4 e5 e7 w1 w3 w4 w5 hl2 hl6 h_l2 h_l6 s2 s6 hG2 hG6 ik iw ok ow hml1 hml4 D4
    have hpl7 := D7 _ _ npa hpl
    have pat : atI (pts.map V.int) ((mv.length : Int) - 1 - r4) = some (.int (pts.getD i 0)) := by
      rw [ei]
      exact ints_at (by omega)
    obtain ⟨pb0, pb1⟩ := pbd (pts.getD i 0) (by
      rw [List.getD_eq_getElem?_getD, List.getElem?_eq_getElem (by omega)]
      exact List.getElem_mem _)
    have tup_ok : ∀ (r : Row) (G Gp : Hp) (p : Addr), RowOk ks.length fs.length rows.length r → PtB pts r → SameBut a H G → WellAt G a (c + 12) → G p = none → Gp = upd G p (.tup r.vs) → Q (.ref p) Gp := fun r G Gp p rok rpb sb wl hp e => by
      have np := wl.ne hp
      refine q r p Gp rok rpb (sb.trans ?_) ?_ np (same_free sb hwx hp np) ?_
      · rw [e]
        exact .of (same_new hp)
      · rw [e]
        exact wl.same (same_new hp)
      · rw [e]
        exact upd_same
    refine ⟨_, rfl, _, _, rfl, rfl, _, rfl, ite2 (fun _ => ?_) (fun ge2 => ?_)⟩
    · refine ⟨_, rfl, a, _, rfl, w7, by omega, by omega, fun s H8 sz sb8 w8 => ?_⟩
      refine ⟨_, rfl, _, rfl, a, _, wd, rfl, w8, by omega, by omega, Nat.lt_of_le_of_lt (show _ ≤ 1000 by omega) (by decide +kernel), fun rm H9 rm0 rm1 d9 e9 w9 => ?_⟩
      have D9 := D7.trans (sb8.trans d9)
      refine ⟨_, rfl, _, rfl, pl, _, _, _, rfl, rfl, SqL.of (D9 _ _ npa hpl), pat, _, _, rfl, rfl, .inr ⟨_, rfl, _, _, rfl, rfl, .inr ⟨?_, ?_⟩, _, rfl, (by show 4 ≤ sizeLine; decide), fun p hp => ?_⟩⟩
      · split <;> decide
      · split <;> decide
      · obtain ⟨m, em, m64, mp⟩ : ∃ m : Nat, rm * (if decide (pts.getD i 0 < 90) = true then 1 else 0) = (m : Int) ∧ m ≤ 64 ∧ pts.getD i 0 + m ≤ 160 := by
          by_cases cc : pts.getD i 0 < 90
          · rw [if_pos (decide_eq_true cc), Int.mul_one]
            exact ⟨rm.toNat, by omega, by omega, by omega⟩
          · rw [if_neg (by rw [decide_eq_false cc]; decide), Int.mul_zero]
            exact ⟨0, rfl, by omega, by omega⟩
        refine tup_ok (.times s m i) H9 _ p ⟨sz, m64, il⟩ mp D9 (w9.mono (by omega)) hp ?_
        show upd H9 p (.tup [V.str "times", .int s, .int (rm * (if decide (pts.getD i 0 < 90) = true then 1 else 0)), .int ((mv.length : Int) - 1 - r4)]) = _
        rw [em, ei]
        rfl
    refine ⟨_, rfl, _, _, rfl, rfl, _, rfl, ite2 (fun lt5 => ?_) (fun _ => ?_)⟩
    · have l5 : r1 < 5 := toB lt5
      have g2 : ¬ r1 < 2 := toNB ge2
      refine ⟨(by show 3 ≤ sizeLine; decide), fun l3 hl3 => ?_⟩
      have q3 := same_new (o := .lst [V.str "plus", V.str "less", V.str "less"]) hl3
      obtain ⟨v, iv, ov⟩ := threeI (x := V.str "plus") (y := V.str "less") (z := V.str "less") (r := r1 - 2) (by omega) (by omega)
      refine ⟨_, rfl, _, _, rfl, rfl, l3, _, _, v, rfl, rfl, SqL.of upd_same, iv, _, rfl, _, rfl, (by show 3 ≤ sizeLine; decide), fun p hp => ?_⟩
      rcases ov with rfl | rfl | rfl
      · refine tup_ok (.plus i j) _ _ p ⟨il, jl⟩ trivial (D7.trans (.of q3)) ((w7.same q3).mono (by omega)) hp ?_
        show upd _ p (.tup [V.str "plus", .int ((mv.length : Int) - 1 - r4), .int (j : Int)]) = _
        rw [ei]
        rfl
      · refine tup_ok (.less i j) _ _ p ⟨il, jl⟩ trivial (D7.trans (.of q3)) ((w7.same q3).mono (by omega)) hp ?_
        show upd _ p (.tup [V.str "less", .int ((mv.length : Int) - 1 - r4), .int (j : Int)]) = _
        rw [ei]
        rfl
      · refine tup_ok (.less i j) _ _ p ⟨il, jl⟩ trivial (D7.trans (.of q3)) ((w7.same q3).mono (by omega)) hp ?_
        show upd _ p (.tup [V.str "less", .int ((mv.length : Int) - 1 - r4), .int (j : Int)]) = _
        rw [ei]
        rfl
    refine ⟨_, rfl, rfl, _, rfl, ite2 (fun _ => ?_) (fun _ => ?_)⟩
    · refine ⟨_, rfl, _, rfl, _, _, rfl, rfl, .inl ⟨by decide, by decide⟩, _, _, rfl, rfl, a, _, 2 * wd - 1, rfl, w7, by omega, by omega, Nat.lt_of_le_of_lt (show _ ≤ 1000 by omega) (by decide +kernel), fun rm H9 rm0 rm1 d9 e9 w9 => ?_⟩
      have D9 := D7.trans d9
      have ab : (if pts.getD i 0 < 0 then -pts.getD i 0 else pts.getD i 0) = ((pts.getD i 0).natAbs : Int) := by split <;> omega
      refine ⟨_, rfl, _, _, rfl, rfl, _, _, rfl, rfl, _, rfl, _, rfl, pl, _, _, _, rfl, rfl, SqL.of (D9 _ _ npa hpl), pat, _, rfl, _, _, rfl, rfl, .inr ⟨_, rfl, _, _, rfl, rfl, .inr ⟨?_, ?_⟩, _, rfl, (by show 3 ≤ sizeLine; decide), fun p hp => ?_⟩⟩
      · exact (ib01 _).1
      · exact (ib01 _).2
      · obtain ⟨m, em, m64, mp⟩ : ∃ m : Int, (rm - wd + 1) * (if decide (((pts.getD i 0).natAbs : Int) < 90) = true then 1 else 0) = m ∧ m.natAbs ≤ 64 ∧ -160 ≤ pts.getD i 0 - m ∧ pts.getD i 0 - m ≤ 160 := by
          by_cases cc : ((pts.getD i 0).natAbs : Int) < 90
          · rw [if_pos (decide_eq_true cc), Int.mul_one]
            exact ⟨_, rfl, by omega, by omega, by omega⟩
          · rw [if_neg (by rw [decide_eq_false cc]; decide), Int.mul_zero]
            exact ⟨0, rfl, by omega, by omega, by omega⟩
        refine tup_ok (.move m i) H9 _ p ⟨m64, il⟩ mp D9 (w9.mono (by omega)) hp ?_
        show upd H9 p (.tup [V.str "move", .int ((rm - wd + 1) * (if decide ((if pts.getD i 0 < 0 then -pts.getD i 0 else pts.getD i 0) < 90) = true then 1 else 0)), .int ((mv.length : Int) - 1 - r4)]) = _
        rw [ab, em, ei]
        rfl
    refine ⟨_, rfl, rfl, _, rfl, ite2 (fun _ => ?_) (fun _ => ?_)⟩
    · refine ⟨_, rfl, _, rfl, a, kl, ks, _, rfl, D7 _ _ nka hkl, k5, w7, by omega, by omega, fun r p G hb sb wl np fp hp => ?_⟩
      have rok : RowOk ks.length fs.length rows.length r ∧ PtB pts r := by
        cases r with
        | inn => exact ⟨trivial, trivial⟩
        | old k => exact ⟨hb, trivial⟩
        | _ => exact hb.elim
      exact q r p G rok.1 rok.2 (D7.trans sb) (wl.mono (by omega)) np (same_free D7 hwx fp np) hp
    · refine ⟨_, rfl, _, rfl, fl, _, rfl, .inl (SqL.of (D7 _ _ nfa hfl)), a, _, (fv.length : Int), rfl, w7, by omega, by omega, Nat.lt_of_le_of_lt (show _ ≤ 1000 by omega) (by decide +kernel), fun rm H9 rm0 rm1 d9 e9 w9 => ⟨_, rfl, (by show 3 ≤ sizeLine; decide), fun p hp => ?_⟩⟩
      obtain ⟨f, rfl⟩ : ∃ f : Nat, rm = f := ⟨rm.toNat, by omega⟩
      refine tup_ok (.keep f i) H9 _ p ⟨by omega, il⟩ trivial (D7.trans d9) (w9.mono (by omega)) hp ?_
      show upd H9 p (.tup [V.str "keep", .int (f : Int), .int ((mv.length : Int) - 1 - r4)]) = _
      rw [ei]
      rfl
end
end E1

namespace E1
open PySem PySem.Spec PyProof.Rows L2

theorem at_last {xs : List V} {x : V} : atI (xs ++ [x]) (-1) = some x := by
  unfold atI ixN
  rw [if_neg (by decide), if_pos (by rw [List.length_append, List.length_singleton]; omega)]
  show (xs ++ [x])[((-1 : Int) + ((xs ++ [x]).length : Int)).toNat]? = some x
  rw [show ((-1 : Int) + ((xs ++ [x]).length : Int)).toNat = xs.length by rw [List.length_append, List.length_singleton]; omega, List.getElem?_append_right (Nat.le_refl _), Nat.sub_self]
  rfl
/-- but for three -/
def B3 (a m p : Addr) (H H' : Hp) : Prop := ∀ b o, b ≠ a → b ≠ m → b ≠ p → H b = some o → H' b = some o
theorem B3.trans {a m p : Addr} {H H1 H2 : Hp} (x : B3 a m p H H1) (y : B3 a m p H1 H2) : B3 a m p H H2 := fun b o n1 n2 n3 e => y b o n1 n2 n3 (x b o n1 n2 n3 e)
theorem B3.refl (a m p : Addr) (H : Hp) : B3 a m p H H := fun _ _ _ _ _ e => e
theorem B3.one {a m p : Addr} {H H' : Hp} (s : SameBut a H H') : B3 a m p H H' := fun b o n _ _ e => s b o n e
theorem B3.two {a m p : Addr} {H H' : Hp} (s : SameBut m H H') : B3 a m p H H' := fun b o _ n _ e => s b o n e
theorem B3.three {a m p : Addr} {H H' : Hp} (s : SameBut p H H') : B3 a m p H H' := fun b o _ _ n e => s b o n e
theorem B3.of {a m p : Addr} {H H' : Hp} (s : Same H H') : B3 a m p H H' := fun b o _ _ _ e => s b o e
def ptsK (fs : List FormP) (en : Nat) (ks : List Nat) (rows : List Row) : List Int := ptsOf (fpt fs en) (ks.map (fpt fs)) (fs.map (·.pt)) rows
/-- forms, the one that enters, the holds' forms -/
structure FC (fs : List FormP) (en : Nat) (ks : List Nat) : Prop where
  f1 : 1 ≤ fs.length
  f2 : fs.length ≤ 12
  en : en < fs.length
  k5 : ks.length ≤ 5
  ko : ∀ k ∈ ks, k < fs.length
  fo : ∀ f ∈ fs, f.Ok
  fp : ∀ f ∈ fs, -4 ≤ f.pt ∧ f.pt ≤ 5
/-- rows that grow, with their points -/
structure FB (H : Hp) (a fl kl ml pl : Addr) (fs : List FormP) (en : Nat) (ks : List Nat) (rows : List Row) (c : Int) : Prop where
  w : WellAt H a c
  f : TL7 H fl (fs.map FormP.vs)
  k : H kl = some (.lst (ks.map nI))
  m : TL7 H ml (rows.map Row.vs)
  p : H pl = some (.lst ((ptsK fs en ks rows).map V.int))
  n1 : kl ≠ a
  n2 : fl ≠ a
  n3 : ml ≠ a
  n4 : pl ≠ a
  n5 : kl ≠ ml
  n6 : fl ≠ ml
  n7 : kl ≠ pl
  n8 : fl ≠ pl
  n9 : ml ≠ pl
  ok : ∀ i r, rows[i]? = some r → RowOk ks.length fs.length i r
  pb : ∀ p ∈ ptsK fs en ks rows, -160 ≤ p ∧ p ≤ 160
  l1 : 1 ≤ rows.length
section
variable {H H' : Hp} {a fl kl ml pl : Addr} {fs : List FormP} {en : Nat} {ks : List Nat} {rows : List Row} {c c' : Int}
theorem FB.mono (b : FB H a fl kl ml pl fs en ks rows c) (l : c ≤ c') : FB H a fl kl ml pl fs en ks rows c' := { b with w := b.w.mono l }
theorem FB.one (b : FB H a fl kl ml pl fs en ks rows c) (s : SameBut a H H') (w : WellAt H' a c') : FB H' a fl kl ml pl fs en ks rows c' := by
  obtain ⟨gx, hgx⟩ := b.w.lst
  exact { b with w := w, f := b.f.but s hgx b.n2, k := s _ _ b.n1 b.k, m := b.m.but s hgx b.n3, p := s _ _ b.n4 b.p }
theorem FB.new (b : FB H a fl kl ml pl fs en ks rows c) (s : Same H H') : FB H' a fl kl ml pl fs en ks rows c := b.one (.of s) (b.w.same s)
theorem ptsK_len (fs : List FormP) (en : Nat) (ks : List Nat) (rows : List Row) : (ptsK fs en ks rows).length = rows.length := ptsOf_len ..
theorem ptsK_snoc (fs : List FormP) (en : Nat) (ks : List Nat) (rows : List Row) (r : Row) : ptsK fs en ks (rows ++ [r]) = ptsK fs en ks rows ++ [rowPt (fpt fs en) (ks.map (fpt fs)) (fs.map (·.pt)) (ptsK fs en ks rows) r] := ptsOf_snoc ..
theorem fpt_bd (h : ∀ f ∈ fs, -4 ≤ f.pt ∧ f.pt ≤ 5) (k : Nat) : -160 ≤ fpt fs k ∧ fpt fs k ≤ 160 := by
  unfold fpt
  rw [List.getD_eq_getElem?_getD, List.getElem?_map]
  cases e : fs[k]? with
  | none => exact ⟨by decide, by decide⟩
  | some f =>
    have := h f (List.mem_of_getElem? e)
    exact ⟨by show -160 ≤ f.pt; omega, by show f.pt ≤ 160; omega⟩
theorem row_bd {pts : List Int} (fc : FC fs en ks) (pb : ∀ p ∈ pts, -160 ≤ p ∧ p ≤ 160) {r : Row} (ok : RowOk ks.length fs.length pts.length r) (hr : PtB pts r) : -160 ≤ rowPt (fpt fs en) (ks.map (fpt fs)) (fs.map (·.pt)) pts r ∧ rowPt (fpt fs en) (ks.map (fpt fs)) (fs.map (·.pt)) pts r ≤ 160 := by
  have g : ∀ i, -160 ≤ pts.getD i 0 ∧ pts.getD i 0 ≤ 160 := fun i => by
    rw [List.getD_eq_getElem?_getD]
    cases e : pts[i]? with
    | none => exact ⟨by decide, by decide⟩
    | some p => exact pb p (List.mem_of_getElem? e)
  match r, ok, hr with
  | .inn, _, _ => exact fpt_bd fc.fp en
  | .old k, ok, _ =>
    show -160 ≤ (ks.map (fpt fs)).getD k 0 ∧ (ks.map (fpt fs)).getD k 0 ≤ 160
    rw [List.getD_eq_getElem?_getD, List.getElem?_map]
    cases e : ks[k]? with
    | none => exact ⟨show (-160 : Int) ≤ 0 by decide, show (0 : Int) ≤ 160 by decide⟩
    | some j => exact fpt_bd fc.fp j
  | .times f m x, _, hr => exact ⟨by have := (g x).1; show -160 ≤ pts.getD x 0 + (m : Int); omega, hr⟩
  | .plus x y, _, _ =>
    have := g x
    have := g y
    show -160 ≤ (if pts.getD y 0 > pts.getD x 0 then pts.getD y 0 else pts.getD x 0) ∧ (if pts.getD y 0 > pts.getD x 0 then pts.getD y 0 else pts.getD x 0) ≤ 160
    split <;> omega
  | .less x y, _, _ =>
    have := g x
    have := g y
    show -160 ≤ (if pts.getD y 0 > pts.getD x 0 then pts.getD y 0 else pts.getD x 0) ∧ (if pts.getD y 0 > pts.getD x 0 then pts.getD y 0 else pts.getD x 0) ≤ 160
    split <;> omega
  | .move m x, _, hr => exact hr
  | .keep f x, _, _ => exact fpt_bd fc.fp f
theorem FB.list (b : FB H a fl kl ml pl fs en ks rows c) {l : Addr} {xs ys : List V} (hl : H l = some (.lst xs)) (n1 : a ≠ l) (n2 : fl ≠ l) (n3 : kl ≠ l) (n4 : ml ≠ l) (n5 : pl ≠ l) : FB (upd H l (.lst ys)) a fl kl ml pl fs en ks rows c :=
  { b with w := b.w.but SameBut.upd n1, f := b.f.but SameBut.upd hl n2, k := by rw [upd_ne n3]; exact b.k, m := b.m.but SameBut.upd hl n4, p := by rw [upd_ne n5]; exact b.p }
/-- a row more, and its point -/
theorem FB.push (fc : FC fs en ks) (b : FB H a fl kl ml pl fs en ks rows c) {mv : List V} {p : Addr} {r : Row} (hm : H ml = some (.lst mv)) (tm : TsAt H mv (rows.map Row.vs)) (hp : H p = some (.tup r.vs)) (rok : RowOk ks.length fs.length rows.length r) (rpb : PtB (ptsK fs en ks rows) r) :
    FB (upd (upd H ml (.lst (mv ++ [.ref p]))) pl (.lst ((ptsK fs en ks rows).map V.int ++ [.int (rowPt (fpt fs en) (ks.map (fpt fs)) (fs.map (·.pt)) (ptsK fs en ks rows) r)]))) a fl kl ml pl fs en ks (rows ++ [r]) c := by
  have h_p : (upd H ml (.lst (mv ++ [.ref p]))) pl = some (.lst ((ptsK fs en ks rows).map V.int)) := by
    rw [upd_ne b.n9.symm]
    exact b.p
  refine ⟨(b.w.but SameBut.upd b.n3.symm).but SameBut.upd b.n4.symm, (b.f.but SameBut.upd hm b.n6).but SameBut.upd h_p b.n8, by rw [upd_ne b.n7, upd_ne b.n5]; exact b.k, ⟨mv ++ [.ref p], by rw [upd_ne b.n9, upd_same], ?_⟩, ?_, b.n1, b.n2, b.n3, b.n4, b.n5, b.n6, b.n7, b.n8, b.n9, fun i x e => ?_, fun q hq => ?_, by have := b.l1; rw [List.length_append]; omega⟩
  · rw [List.map_append]
    exact (TsAt.push hm tm hp).but SameBut.upd h_p
  · rw [upd_same, ptsK_snoc, List.map_append]
    rfl
  · rcases row_get e with h | ⟨rfl, rfl⟩
    · exact b.ok i x h
    · exact rok
  · rw [ptsK_snoc] at hq
    rcases List.mem_append.mp hq with h | h
    · exact b.pb q h
    · rw [List.mem_singleton.mp h]
      exact row_bd fc b.pb (by rw [ptsK_len]; exact rok) rpb
end
def sp2Fill : Sp := fun vs H Q _ => ∃ (a np fl kl ml pl : Addr) (fs : List FormP) (en : Nat) (ks : List Nat) (rows : List Row) (many : Nat) (c : Int), vs = [.ref a, .ref np, .int many] ∧ H np = some (.tup [.ref fl, .int en, .ref ml, .ref kl, .ref pl]) ∧ FC fs en ks ∧ FB H a fl kl ml pl fs en ks rows c ∧ many ≤ 30 ∧ rows.length + many ≤ 60 ∧ 0 ≤ c ∧ c ≤ 5000 ∧
  ∀ (ex : List Row) (H' : Hp), ex.length = many → B3 a ml pl H H' → FB H' a fl kl ml pl fs en ks (rows ++ ex) (c + 12 * many) → Q .non H'
section
variable {P : Program} {w : World} {K : PySem.W.Frag} {mg : Str → Option Value} {base : Heap}
theorem sc__law_filled : FnScope ["_law_well_here", "_law_net_here", "_law_many", "_law_forms", "_law_enters", "_law_rows", "_law_held", "_law_points", "_law_k"] ["_law_well_here", "_law_net_here", "_law_many"] (defScope s__law_filled) := ⟨rfl, rfl, rfl, by decide +kernel, rfl, by decide +kernel, by decide +kernel⟩
theorem ok__law_filled {f : Addr} {fd : FuncData} (F : Fun K "_law_filled" "_law_filled" s__law_filled f fd) (z : Zs mg) (c__law_one_more : Cal P w K mg base 3 "_law_one_more" ["_law_well_here", "_law_rows", "_law_points", "_law_forms", "_law_held"] sp2More) (c__law_point : Cal P w K mg base 1 "_law_point" ["_law_row", "_law_points", "_law_forms", "_law_enters", "_law_held"] sp2Point) : FnOk P w K mg base CX0 4 f fd ["_law_well_here", "_law_net_here", "_law_many"] sp2Fill := by
  refine F.ok sc__law_filled (fun vs H Q E h => ?_) (fun cdv A outer s H vs Q E hr h => ?_)
  · obtain ⟨a, np, fl, kl, ml, pl, fs, en, ks, rows, many, c, rfl, _⟩ := h
    rfl
  · obtain ⟨a, np, fl, kl, ml, pl, fs, en, ks, rows, many, c, rfl, hnp, fc, b, m30, r60, c0, c5, q⟩ := h
    refine ⟨_, (pss_cons (ps_asg (pv 1) (pg_tup (by rfl) (pgs_cons (pg_name (i := 3) sc__law_filled.nd rfl (.inl rfl)) (pgs_cons (pg_name (i := 4) sc__law_filled.nd rfl (.inl rfl)) (pgs_cons (pg_name (i := 5) sc__law_filled.nd rfl (.inl rfl)) (pgs_cons (pg_name (i := 6) sc__law_filled.nd rfl (.inl rfl)) (pgs_cons (pg_name (i := 7) sc__law_filled.nd rfl (.inl rfl)) pgs_nil)))))))
      (pss_one (ps_for PassesOwn.never rfl (pi_range1 (by rfl) z.range (pa_cons (pv 2) pa_nil)) (pg_name (i := 8) sc__law_filled.nd rfl (.inl rfl)) (pss_cons (ps_expr (pe_bm PySem.F.plainAttrs_list PySem.F.slot_list_append PySem.F.type_list_append mt_append (pv 5) (pa_cons (pe_cal c__law_one_more hr (pa_cons (pv 0) (pa_cons (pv 5) (pa_cons (pv 7) (pa_cons (pv 3) (pa_cons (pv 6) pa_nil)))))) pa_nil)))
      (pss_one (ps_expr (pe_bm PySem.F.plainAttrs_list PySem.F.slot_list_append PySem.F.type_list_append mt_append (pv 7) (pa_cons (pe_cal c__law_point hr (pa_cons (pe_ix ix_list (pv 5) (pe_un un_neg pe_int) (fun _ _ => rfl)) (pa_cons (pv 7) (pa_cons (pv 3) (pa_cons (pv 4) (pa_cons (pv 6) pa_nil)))))) pa_nil)))))))), ?_⟩
    refine ⟨_, rfl, np, _, rfl, SqT.of hnp, rfl, _, _, rfl, _, _, rfl, _, _, rfl, _, _, rfl, _, _, rfl, rfl, _, rfl, many, rfl, by omega, by omega, ?_⟩
    refine for_it walk_range (fun i σ G => ∃ (ex : List Row) (y : Option V), σ = [some (.ref a), some (.ref np), some (.int (many : Nat)), some (.ref fl), some (.int (en : Nat)), some (.ref ml), some (.ref kl), some (.ref pl), y] ∧ ex.length = i ∧ B3 a ml pl H G ∧ FB G a fl kl ml pl fs en ks (rows ++ ex) (c + 12 * i)) ⟨[], none, rfl, rfl, B3.refl _ _ _ _, by rw [List.append_nil]; exact b.mono (by omega)⟩ (fun _ _ _ _ _ => trivial) (fun i x σ G G' hi hP hY => ?_) (fun σ G hP => ?_)
    · obtain ⟨ex, y, rfl, lx, B, b⟩ := hP
      obtain ⟨rfl, rfl⟩ := hY
      have lr : (rows ++ ex).length = rows.length + i := by rw [List.length_append, lx]
      obtain ⟨mv, hmv, tmv⟩ := id b.m
      have lmv := tmv.rlen
      refine ⟨_, rfl, .inl ⟨rfl, _, SqL.of hmv⟩, _, rfl, _, rfl, _, rfl, _, rfl, _, rfl, a, ml, pl, fl, kl, rows ++ ex, ptsK fs en ks (rows ++ ex), fs, ks, c + 12 * i, rfl, b.m, b.p, b.f, b.k, ptsK_len .., b.l1, by omega, fc.f1, fc.f2, fc.k5, b.pb, b.w, b.n3, b.n4, b.n2, b.n1, by omega, by omega, fun r p G2 rok rpb sb w2 np2 hp0 hp => ?_⟩
      obtain ⟨gx, hgx⟩ := b.w.lst
      have b2 := b.one sb w2
      have hm2 := sb _ _ b.n3 hmv
      have tm2 := tmv.but sb hgx
      refine ⟨ml, _, _, rfl, rfl, hm2, sl_lt (by omega), ?_⟩
      have bp := FB.push fc b2 hm2 tm2 hp rok rpb
      have hmU : (upd G2 ml (.lst (mv ++ [.ref p]))) ml = some (.lst (mv ++ [.ref p])) := upd_same
      have hpU : (upd G2 ml (.lst (mv ++ [.ref p]))) p = some (.tup r.vs) := by
        rw [upd_ne (ne_of hp hm2 (fun z => nomatch z))]
        exact hp
      have hplU : (upd G2 ml (.lst (mv ++ [.ref p]))) pl = some (.lst ((ptsK fs en ks (rows ++ ex)).map V.int)) := by
        rw [upd_ne b2.n9.symm]
        exact b2.p
      have hfU := b2.f.but (SameBut.upd (o := .lst (mv ++ [.ref p]))) hm2 b2.n6
      have hkU : (upd G2 ml (.lst (mv ++ [.ref p]))) kl = some (.lst (ks.map nI)) := by
        rw [upd_ne b2.n5]
        exact b2.k
      refine ⟨_, rfl, .inl ⟨rfl, _, SqL.of hplU⟩, _, rfl, _, rfl, ml, _, -1, .ref p, rfl, rfl, SqL.of hmU, at_last, _, rfl, _, rfl, _, rfl, _, rfl, p, pl, fl, kl, r, ptsK fs en ks (rows ++ ex), fs, en, ks, rfl, hpU, hplU, hfU, hkU, fc.en, fc.ko, by rw [ptsK_len]; exact rok, ?_⟩
      refine ⟨pl, _, _, rfl, rfl, hplU, sl_lt (by rw [List.length_map, ptsK_len]; omega), ex ++ [r], _, rfl, by rw [List.length_append, List.length_singleton, lx], ((B.trans (.one sb)).trans (.two SameBut.upd)).trans (.three SameBut.upd), ?_⟩
      rw [← List.append_assoc]
      exact bp.mono (by omega)
    · obtain ⟨ex, y, rfl, lx, B, b⟩ := hP
      exact q ex G lx B b
end
end E1

namespace E1
open PySem PySem.Spec PyProof.Rows L2

def HoldOk2 (fs : List FormP) (rows : List Row) (h : Hold) : Prop := h.k < fs.length ∧ inR (frm fs h.k).w h.s = true ∧ h.s.natAbs < 2 ^ 110 ∧ ∃ x, rows[h.l]? = some (.keep h.k x)
theorem HoldOk2.more {fs : List FormP} {rows t : List Row} {h : Hold} (k : HoldOk2 fs rows h) : HoldOk2 fs (rows ++ t) h := by
  obtain ⟨a, b, c, x, e⟩ := k
  refine ⟨a, b, c, x, ?_⟩
  rw [List.getElem?_append_left (List.getElem?_eq_some_iff.mp e).1]
  exact e
theorem HoldOk2.into {fs : List FormP} {rows t : List Row} {h : Hold} (k : HoldOk2 fs (rows ++ t) h) : ∀ {u : List Row}, HoldOk2 fs (rows ++ (t ++ u)) h := fun {u} => by
  rw [← List.append_assoc]
  exact k.more
def sp2Links : Sp := fun vs H Q _ => ∃ (a np fl kl ml pl : Addr) (fs : List FormP) (en : Nat) (ks : List Nat) (rows : List Row) (c : Int), vs = [.ref a, .ref np] ∧ H np = some (.tup [.ref fl, .int en, .ref ml, .ref kl, .ref pl]) ∧ FC fs en ks ∧ FB H a fl kl ml pl fs en ks rows c ∧ rows.length ≤ 50 ∧ 0 ≤ c ∧ c ≤ 5000 ∧
  ∀ (ex : List Row) (hs : List Hold) (l : Addr) (H' : Hp), ex.length ≤ ks.length → hs.map (·.k) = ks → (∀ h ∈ hs, HoldOk2 fs (rows ++ ex) h) → B3 a ml pl H H' → FB H' a fl kl ml pl fs en ks (rows ++ ex) (c + 20 * ks.length) → H l = none → l ≠ a → l ≠ ml → l ≠ pl → TL7 H' l (hs.map Hold.vs) → Q (.ref l) H'
theorem TL7.three {H H' : Hp} {l a m p : Addr} {xa xm xp : List V} {xss : List (List V)} (t : TL7 H l xss) (s : B3 a m p H H') (ha : H a = some (.lst xa)) (hm : H m = some (.lst xm)) (hp : H p = some (.lst xp)) (n1 : l ≠ a) (n2 : l ≠ m) (n3 : l ≠ p) : TL7 H' l xss := by
  obtain ⟨vs, e, tt⟩ := t
  exact ⟨vs, s _ _ n1 n2 n3 e, tt.mono fun _ _ e2 => s _ _ (ne_of e2 ha (fun z => nomatch z)) (ne_of e2 hm (fun z => nomatch z)) (ne_of e2 hp (fun z => nomatch z)) e2⟩
section
variable {P : Program} {w : World} {K : PySem.W.Frag} {mg : Str → Option Value} {base : Heap}
theorem sc__law_links : FnScope ["_law_well_here", "_law_net_here", "_law_forms", "_law_enters", "_law_rows", "_law_held", "_law_points", "_law_holds", "_law_form_here", "_law_at", "_law_some", "_law_near"] ["_law_well_here", "_law_net_here"] (defScope s__law_links) := ⟨rfl, rfl, rfl, by decide +kernel, rfl, by decide +kernel, by decide +kernel⟩
theorem ok__law_links {f : Addr} {fd : FuncData} (F : Fun K "_law_links" "_law_links" s__law_links f fd) (z : Zs mg) (c__law_draw : Cal P w K mg base 1 "_law_draw" ["_law_well_here", "_law_many"] spDraw) (c__law_word : Cal P w K mg base 2 "_law_word" ["_law_form_here", "_law_well_here"] sp2Word) : FnOk P w K mg base CX0 3 f fd ["_law_well_here", "_law_net_here"] sp2Links := by
  refine F.ok sc__law_links (fun vs H Q E h => ?_) (fun cdv A outer s H vs Q E hr h => ?_)
  · obtain ⟨a, np, fl, kl, ml, pl, fs, en, ks, rows, c, rfl, _⟩ := h
    rfl
  · obtain ⟨a, np, fl, kl, ml, pl, fs, en, ks, rows, c, rfl, hnp, fc, b0, r50, c0, c5, q⟩ := h
    refine ⟨_, (pss_cons (ps_asg (pv 1) (pg_tup (by rfl) (pgs_cons (pg_name (i := 2) sc__law_links.nd rfl (.inl rfl)) (pgs_cons (pg_name (i := 3) sc__law_links.nd rfl (.inl rfl)) (pgs_cons (pg_name (i := 4) sc__law_links.nd rfl (.inr rfl)) (pgs_cons (pg_name (i := 5) sc__law_links.nd rfl (.inl rfl)) (pgs_cons (pg_name (i := 6) sc__law_links.nd rfl (.inl rfl)) pgs_nil)))))))
      (pss_cons (ps_set (i := 7) sc__law_links.nd rfl (.inl rfl) (pe_lst pa_nil))
      (pss_cons (ps_for PassesOwn.never rfl (pi_list (pv 5)) (pg_name (i := 8) sc__law_links.nd rfl (.inr rfl)) (pss_cons (ps_setLc (i := 10) (own := [("_law_at", 9)]) (g := gName 9) (te := (tVar 9)) (tt := (tTest (tOp (rEqD K) (tSl (rSlA K) (tOp (rIxL K) (tVar 4) (tVar 9)) tNoPart (tPart (tC (.int 2)))) (tTup (tCons (tC (.str "keep")) (tCons (tVar 8) tNil)))))) (by rfl) sc__law_links.nd rfl rfl (sw_true rfl rfl rfl (by decide +kernel)) (pi_range1 (by rfl) z.range (pa_cons (pe_callB call_len_seq (by rfl) z.len PySem.boot_len (pa_cons (pv 4) pa_nil)) pa_nil)) (blkOk_by (own := [("_law_at", 9)]) (N := ["_law_well_here", "_law_net_here", "_law_forms", "_law_enters", "_law_rows", "_law_held", "_law_points", "_law_holds", "_law_form_here", "_law_at", "_law_some", "_law_near"]) (sc := defScope s__law_links) (by decide +kernel)) (fun _ _ _ _ _ => by exact (pg_name (i := 9) sc__law_links.nd rfl (.inl rfl))) (fun _ _ _ _ _ => by exact (pts_one (pt_cmpR (op_eqD hr.units) (pe_slice sl_tupA (pe_ix ix_list (pv 4) (pv 9) (fun _ _ => rfl)) po_none (po_some pe_int)) (pe_tup (pa_cons pe_str (pa_cons (pv 8) pa_nil))) (nomark _)))) (fun _ _ _ _ _ => by exact (pv 9)))
      (pss_cons (ps_set (i := 9) sc__law_links.nd rfl (.inl rfl) (pe_callB call_len_seq (by rfl) z.len PySem.boot_len (pa_cons (pv 4) pa_nil)))
      (C8.pss_cut (ps_if (PW.pt (pw_and (pt_cmpR (op_neD hr.units) (pv 10) (pe_lst pa_nil) (nomark _)) (pw_and1 (pt_cmpR op_eq (pe_cal c__law_draw hr (pa_cons (pv 0) (pa_cons pe_int pa_nil))) pe_int (nomark _))))) (pss_one (ps_set (i := 9) sc__law_links.nd rfl (.inl rfl) (pe_ix ix_list (pv 10) (pe_cal c__law_draw hr (pa_cons (pv 0) (pa_cons (pe_callB call_len_seq (by rfl) z.len PySem.boot_len (pa_cons (pv 10) pa_nil)) pa_nil))) (fun _ _ => rfl)))) (pss_cons (ps_set (i := 11) sc__law_links.nd rfl (.inl rfl) (pe_op op_sub (pe_op op_sub (pe_callB call_len_seq (by rfl) z.len PySem.boot_len (pa_cons (pv 4) pa_nil)) pe_int) (pe_cal c__law_draw hr (pa_cons (pv 0) (pa_cons (pe_callB (call_min2 rfl) (by rfl) z.min (by decide +kernel) (pa_cons pe_int (pa_cons (pe_callB call_len_seq (by rfl) z.len PySem.boot_len (pa_cons (pv 4) pa_nil)) pa_nil))) pa_nil)))))
      (pss_cons (ps_expr (pe_bm PySem.F.plainAttrs_list PySem.F.slot_list_append PySem.F.type_list_append mt_append (pv 4) (pa_cons (pe_tup (pa_cons pe_str (pa_cons (pv 8) (pa_cons (pe_ix ix_list (pe_lst (pa_cons (pv 11) (pa_cons (pe_cal c__law_draw hr (pa_cons (pv 0) (pa_cons (pe_callB call_len_seq (by rfl) z.len PySem.boot_len (pa_cons (pv 4) pa_nil)) pa_nil))) pa_nil))) (pe_cal c__law_draw hr (pa_cons (pv 0) (pa_cons pe_int pa_nil))) (fun _ _ => rfl)) pa_nil)))) pa_nil)))
      (pss_one (ps_expr (pe_bm PySem.F.plainAttrs_list PySem.F.slot_list_append PySem.F.type_list_append mt_append (pv 6) (pa_cons (pe_ix ix_tup (pe_ix ix_list (pv 2) (pv 8) (fun _ _ => rfl)) pe_int (fun _ _ => rfl)) pa_nil)))))))
      (pss_one (ps_expr (pe_bm PySem.F.plainAttrs_list PySem.F.slot_list_append PySem.F.type_list_append mt_append (pv 7) (pa_cons (pe_tup (pa_cons (pv 8) (pa_cons (pe_cal c__law_word hr (pa_cons (pe_ix ix_list (pv 2) (pv 8) (fun _ _ => rfl)) (pa_cons (pv 0) pa_nil))) (pa_cons (pv 9) pa_nil)))) pa_nil))))))))
      (pss_one (ps_ret (pv 7)))))), ?_⟩
    refine ⟨_, rfl, np, _, rfl, SqT.of hnp, rfl, _, _, rfl, _, _, rfl, _, _, rfl, _, _, rfl, _, _, rfl, rfl, (by show 0 ≤ sizeLine; decide), fun ll hll => ?_⟩
    generalize hG0 : upd _ ll _ = G0
    obtain ⟨s0, h_ll⟩ := upd_gen hG0 hll
    have b1 := b0.new s0
    have nla : ll ≠ a := b0.w.ne hll
    have nlm : ll ≠ ml := by
      obtain ⟨xs, e, _⟩ := b0.m
      exact (ne_of_none e hll).symm
    have nlp : ll ≠ pl := (ne_of_none b0.p hll).symm
    have nlk : kl ≠ ll := ne_of_none b0.k hll
    have k5 := fc.k5
    refine ⟨_, rfl, kl, rfl, ⟨_, SqL.of b1.k⟩, ?_⟩
    refine for_it (walk_list (K := K) (a := kl) (xs := ks.map nI)) (fun i σ G => ∃ (ex : List Row) (hs : List Hold) (y8 y9 y10 y11 : Option V), σ = [some (.ref a), some (.ref np), some (.ref fl), some (.int (en : Nat)), some (.ref ml), some (.ref kl), some (.ref pl), some (.ref ll), y8, y9, y10, y11] ∧ ex.length ≤ i ∧ hs.map (·.k) = ks.take i ∧ (∀ h ∈ hs, HoldOk2 fs (rows ++ ex) h) ∧ B3 a ml pl H G ∧ FB G a fl kl ml pl fs en ks (rows ++ ex) (c + 20 * i) ∧ TL7 G ll (hs.map Hold.vs)) ⟨[], [], none, none, none, none, rfl, Nat.le_refl _, rfl, (fun h x => nomatch x), .of s0, by rw [List.append_nil]; exact b1.mono (by omega), ⟨[], h_ll, .nil⟩⟩ (fun i σ G hi hP => ?_) (fun i x σ G G' hi hP hY => ?_) (fun σ G hP => ?_)
    · obtain ⟨ex, hs, y8, y9, y10, y11, rfl, _, _, _, _, b, _⟩ := hP
      exact SqL.of b.k
    · obtain ⟨ex, hs, y8, y9, y10, y11, rfl, lx, hke, hho, B, b, tl⟩ := hP
      obtain ⟨rfl, hx⟩ := hY
      rw [List.getElem?_map] at hx
      obtain ⟨kd, ekd, rfl⟩ := Option.map_eq_some_iff.mp hx
      have i5 : i < ks.length := (List.getElem?_eq_some_iff.mp ekd).1
      have kdl : kd < fs.length := fc.ko kd (List.mem_of_getElem? ekd)
      have lrx : (rows ++ ex).length ≤ 60 := by rw [List.length_append]; omega
      obtain ⟨mv, hmv, tmv⟩ := id b.m
      have lmv := tmv.rlen
      have hlen : hs.length = i := by
        have := congrArg List.length hke
        rw [List.length_map, List.length_take] at this
        omega
      refine ⟨_, rfl, ml, _, rfl, .inl (SqL.of hmv), mv.length, rfl, by omega, by omega, fun D hD => ?_⟩
      refine lc_it walk_range (fun j G2 => Same G' G2 ∧ ∃ ns : List Nat, G2 D = some (.lst (ns.map nI)) ∧ ns.length ≤ j ∧ ∀ n ∈ ns, ∃ y, (rows ++ ex)[n]? = some (.keep kd y)) ⟨same_new hD, [], upd_same, Nat.le_refl _, (fun n x => nomatch x)⟩ (fun _ _ _ _ => trivial) (fun j x G2 G3 hj hP hY => ?_) (fun G2 hP => ?_)
      · obtain ⟨s1, ns, hd, ln, hns⟩ := hP
        obtain ⟨rfl, rfl⟩ := hY
        obtain ⟨r, er⟩ : ∃ r, (rows ++ ex)[j]? = some r := ⟨_, List.getElem?_eq_getElem (by omega)⟩
        obtain ⟨p, ep, hp⟩ := tmv.at (i := j) (xs := r.vs) (by rw [List.getElem?_map, er]; rfl)
        replace hp := s1 _ _ hp
        have j0 : (0 : Int) + (j : Int) = (j : Nat) := Int.zero_add _
        refine ⟨rfl, _, rfl, _, rfl, ml, _, (0 : Int) + (j : Int), .ref p, rfl, rfl, SqL.of (s1 _ _ hmv), by rw [j0]; exact atI_nat ep, _, rfl, p, _, rfl, SqT.of hp, fun hwh => ?_, fun hwh c1 hc1 => ?_⟩
        · refine ⟨_, rfl, (by show 2 ≤ sizeLine; decide), fun c2 hc2 => ?_⟩
          generalize hG2 : upd _ c2 _ = G2
          obtain ⟨s4, h_c2⟩ := upd_gen hG2 hc2
          have S := s4
          refine ⟨.tuple r.d2, .tuple [.str "keep", .int kd], .tup (SqT.of (s4 _ _ hp)) (r.dp1 hwh), .tup (SqT.of h_c2) (.cons (.str _) (.cons (.int _) .nil)), r.d2_shaped, kp_shaped _, _, rfl, ?_⟩
          refine ite2 (fun heq => ?_) (fun _ => ?_)
          · obtain ⟨y, rfl⟩ := r.d2_keep kd heq
            refine ⟨_, rfl, _, S _ _ hd, sl_lt (by rw [List.length_map]; omega), fun b o e => ?_, ns ++ [j], ?_, ?_, ?_⟩
            · rw [upd_ne (ne_of_none e hD)]
              exact S _ _ (s1 _ _ e)
            · rw [upd_same, List.map_append]
              show some (HO.lst (_ ++ [V.int (0 + (j : Int))])) = some (.lst (_ ++ [V.int (j : Int)]))
              rw [Int.zero_add]
            · rw [List.length_append, List.length_singleton]
              omega
            · intro n hn
              rcases List.mem_append.mp hn with hn | hn
              · exact hns n hn
              · rw [List.mem_singleton.mp hn]
                exact ⟨y, er⟩
          · exact ⟨s1.trans S, ns, S _ _ hd, by omega, hns⟩
        · generalize hG1 : upd _ c1 _ = G1
          obtain ⟨s5, h_c1⟩ := upd_gen hG1 hc1
          refine ⟨_, rfl, (by show 2 ≤ sizeLine; decide), fun c2 hc2 => ?_⟩
          generalize hG2 : upd _ c2 _ = G2
          obtain ⟨s4, h_c2⟩ := upd_gen hG2 hc2
          have S := s5.trans s4
          refine ⟨.tuple r.d2, .tuple [.str "keep", .int kd], .tup (SqT.of (s4 _ _ h_c1)) r.dp2, .tup (SqT.of h_c2) (.cons (.str _) (.cons (.int _) .nil)), r.d2_shaped, kp_shaped _, _, rfl, ?_⟩
          refine ite2 (fun heq => ?_) (fun _ => ?_)
          · obtain ⟨y, rfl⟩ := r.d2_keep kd heq
            refine ⟨_, rfl, _, S _ _ hd, sl_lt (by rw [List.length_map]; omega), fun b o e => ?_, ns ++ [j], ?_, ?_, ?_⟩
            · rw [upd_ne (ne_of_none e hD)]
              exact S _ _ (s1 _ _ e)
            · rw [upd_same, List.map_append]
              show some (HO.lst (_ ++ [V.int (0 + (j : Int))])) = some (.lst (_ ++ [V.int (j : Int)]))
              rw [Int.zero_add]
            · rw [List.length_append, List.length_singleton]
              omega
            · intro n hn
              rcases List.mem_append.mp hn with hn | hn
              · exact hns n hn
              · rw [List.mem_singleton.mp hn]
                exact ⟨y, er⟩
          · exact ⟨s1.trans S, ns, S _ _ hd, by omega, hns⟩
      obtain ⟨s1, ns, hd, ln, hns⟩ := hP
      have b2 := b.new s1
      have B2 := B.trans (.of s1)
      have tl2 := tl.same s1
      have hmv2 := s1 _ _ hmv
      have nDa : D ≠ a := b.w.ne hD
      have nDm : D ≠ ml := (ne_of_none hmv hD).symm
      have nDp : D ≠ pl := (ne_of_none b.p hD).symm
      refine ⟨_, rfl, ml, _, rfl, .inl (SqL.of hmv2), ?_⟩
      refine ⟨fun σ G4 => ∃ (ex2 : List Row) (at4 : Nat) (y11 : Option V), σ = [some (.ref a), some (.ref np), some (.ref fl), some (.int (en : Nat)), some (.ref ml), some (.ref kl), some (.ref pl), some (.ref ll), some (.int (kd : Nat)), some (.int (at4 : Nat)), some (.ref D), y11] ∧ ex2.length ≤ i + 1 ∧ (∀ h ∈ hs, HoldOk2 fs (rows ++ ex2) h) ∧ (∃ y, (rows ++ ex2)[at4]? = some (.keep kd y)) ∧ B3 a ml pl H G4 ∧ FB G4 a fl kl ml pl fs en ks (rows ++ ex2) (c + 20 * i + 10) ∧ TL7 G4 ll (hs.map Hold.vs), ?_, fun σ G4 hM => ?_⟩
      · refine ⟨_, rfl, (by show 0 ≤ sizeLine; decide), fun z hz => ?_⟩
        generalize hG1 : upd _ z _ = G3
        obtain ⟨s2, h_z⟩ := upd_gen hG1 hz
        refine ⟨.list ((ns.map fun n : Nat => (n : Int)).map PyData.int), .list (([] : List Int).map PyData.int), .lst (SqL.of (s2 _ _ hd)) (dp_nats ns), .lst (SqL.of h_z) .nil, PySem.W.ke_shaped_ints _, PySem.W.ke_shaped_ints _, _, rfl, ?_⟩
        have b3 := (b2.new s2).mono (c' := c + 20 * i + 1) (by omega)
        have B3' := B2.trans (.of s2)
        have tl3 := tl2.same s2
        cases ns with
        | nil =>
          refine iteF (iteF ?_)
          obtain ⟨mv5, hmv5, tmv5⟩ := id b3.m
          have lmv5 := tmv5.rlen
          refine ⟨_, rfl, ml, _, rfl, .inl (SqL.of hmv5), _, _, rfl, rfl, _, rfl, _, rfl, ml, _, rfl, .inl (SqL.of hmv5), _, _, rfl, a, _, (if (mv5.length : Int) < 4 then (mv5.length : Int) else 4), rfl, b3.w, by omega, by have := b3.l1; split <;> omega, Nat.lt_of_le_of_lt (show _ ≤ 1000 by split <;> omega) (by decide +kernel), fun r5 H5 r50' r51 d5 e5 w5 => ⟨_, _, rfl, rfl, ?_⟩⟩
          have r5b : r5 < mv5.length := by
            have := r51
            split at this <;> omega
          have b5 := (b3).one d5 w5
          obtain ⟨gx5, hgx5⟩ := (b3).w.lst
          have tl5 := (tl3).but d5 hgx5 nla
          have hm5 := d5 _ _ (b3).n3 hmv5
          refine ⟨_, rfl, .inl ⟨rfl, _, SqL.of hm5⟩, _, rfl, _, rfl, _, rfl, _, rfl, ml, _, rfl, .inl (SqL.of hm5), a, _, (mv5.length : Int), rfl, w5, by omega, by omega, Nat.lt_of_le_of_lt (show _ ≤ 1000 by omega) (by decide +kernel), fun r6 H6 r60 r61 d6 e6 w6 => ⟨(by show 2 ≤ sizeLine; decide), fun l4 hl4 => ?_⟩⟩
          generalize hG4 : upd _ l4 _ = G4
          obtain ⟨s4, h_l4⟩ := upd_gen hG4 hl4
          refine ⟨_, rfl, a, _, 2, rfl, w6.same s4, by omega, by decide, by decide +kernel, fun r7 H7 r70 r71 d7 e7 w7 => ?_⟩
          obtain ⟨v, iv, ov⟩ := twoN (x := (mv5.length : Int) - 1 - r5) (y := r6) r70 r71
          obtain ⟨x, rfl, xl⟩ : ∃ x : Nat, v = (x : Int) ∧ x < (rows ++ ex).length := by
            rcases ov with e | e
            · exact ⟨((mv5.length : Int) - 1 - r5).toNat, by omega, by omega⟩
            · exact ⟨r6.toNat, by omega, by omega⟩
          have n4 := w6.ne hl4
          refine ⟨l4, _, _, _, rfl, rfl, SqL.of (d7 _ _ n4 h_l4), iv, (by show 3 ≤ sizeLine; decide), fun p hp => ?_⟩
          generalize hG8 : upd _ p _ = G8
          obtain ⟨s8, h_p⟩ := upd_gen hG8 hp
          have b6 := b5.one d6 w6
          have b7 := (b6.new s4).one d7 w7
          have b8 := b7.new s8
          obtain ⟨gx6, hgx6⟩ := b5.w.lst
          obtain ⟨gx7, hgx7⟩ := (b6.new s4).w.lst
          have tl8 := (((tl5.but d6 hgx6 nla).same s4).but d7 hgx7 nla).same s8
          have BB8 := (((((B3').trans (.one d5)).trans (.one d6)).trans (.of s4)).trans (.one d7)).trans (.of s8)
          obtain ⟨mv8, hmv8, tmv8⟩ := id b8.m
          have lmv8 := tmv8.rlen
          have em8 : mv8 = mv5 := by
            have := s8 _ _ (d7 _ _ b5.n3 (s4 _ _ (d6 _ _ b5.n3 hm5)))
            rw [hmv8] at this
            injection this with this
            injection this
          subst em8
          refine ⟨ml, _, _, rfl, rfl, hmv8, sl_lt (by omega), ?_⟩
          have hplU : (upd G8 ml (.lst (mv8 ++ [.ref p]))) pl = some (.lst ((ptsK fs en ks (rows ++ ex)).map V.int)) := by
            rw [upd_ne b8.n9.symm]
            exact b8.p
          have hfU := b8.f.but (SameBut.upd (o := .lst (mv8 ++ [.ref p]))) hmv8 b8.n6
          have efk := List.getElem?_eq_getElem kdl
          obtain ⟨fvk, hfvk, tfvk⟩ := id hfU
          obtain ⟨fpk, epk, hfpk⟩ := tfvk.at (i := kd) (xs := (fs[kd]).vs) (by rw [List.getElem?_map, efk]; rfl)
          have bp := FB.push fc b8 hmv8 tmv8 (p := p) (r := .keep kd x) h_p ⟨kdl, xl⟩ trivial
          have epf : rowPt (fpt fs en) (ks.map (fpt fs)) (fs.map (·.pt)) (ptsK fs en ks (rows ++ ex)) (.keep kd x) = (fs[kd]).pt := fpt_at efk
          rw [epf] at bp
          refine ⟨_, rfl, .inl ⟨rfl, _, SqL.of hplU⟩, _, rfl, _, rfl, fl, _, _, .ref fpk, rfl, rfl, SqL.of hfvk, atI_nat epk, fpk, _, 1, .int _, rfl, rfl, SqT.of hfpk, a1, pl, _, _, rfl, rfl, hplU, sl_lt (by rw [List.length_map, ptsK_len]; omega), ?_⟩
          refine ⟨ex ++ [.keep kd x], mv.length, _, rfl, by rw [List.length_append, List.length_singleton]; omega, fun h hh => (hho h hh).into, ⟨x, ?_⟩, (BB8.trans (.two SameBut.upd)).trans (.three SameBut.upd), by rw [← List.append_assoc]; exact bp.mono (by omega), ?_⟩
          · rw [lmv, ← List.append_assoc, List.getElem?_append_right (Nat.le_refl _), Nat.sub_self]
            rfl
          · exact (tl8.but SameBut.upd hmv8 nlm).but SameBut.upd hplU nlp
        | cons n0 nt =>
          refine iteT ⟨_, rfl, a, c + 20 * i + 1, 3, rfl, b3.w, by omega, by decide, by decide +kernel, fun r3 H3 r30 r31 d3 e3 w3 => ⟨rfl, _, rfl, ite2 (fun _ => ?_) (fun _ => ?_)⟩⟩
          · have bb3 := b3.one d3 w3
            have hd3 := d3 _ _ nDa (s2 _ _ hd)
            refine ⟨_, rfl, _, rfl, _, rfl, D, _, rfl, .inl (SqL.of hd3), a, c + 20 * i + 1 + 1, _, rfl, w3, by omega, by rw [List.length_map, List.length_cons]; omega, Nat.lt_of_le_of_lt (show _ ≤ 1000 by rw [List.length_map]; omega) (by decide +kernel), fun r4 H4 r40 r41 d4 e4 w4 => ?_⟩
            rw [List.length_map] at r41
            obtain ⟨j, rfl⟩ : ∃ j : Nat, r4 = (j : Int) := ⟨r4.toNat, by omega⟩
            have jl : j < (n0 :: nt).length := by omega
            have ej := List.getElem?_eq_getElem jl
            obtain ⟨y, ey⟩ := hns _ (List.getElem_mem jl)
            obtain ⟨gp, hgp⟩ := b3.m
            refine ⟨D, _, _, _, rfl, rfl, SqL.of (d4 _ _ nDa hd3), atI_nat (by rw [List.getElem?_map, ej]; rfl), ex, _, _, rfl, by omega, hho, ⟨y, ey⟩, B3'.trans (.one (d3.trans d4)), (bb3.one d4 w4).mono (by omega), ?_⟩
            obtain ⟨gx, hgx⟩ := b3.w.lst
            obtain ⟨gx2, hgx2⟩ := w3.lst
            exact (tl3.but d3 hgx nla).but d4 hgx2 nla
          · have bb3 := b3.one d3 w3
            obtain ⟨gx, hgx⟩ := b3.w.lst
            obtain ⟨mv5, hmv5, tmv5⟩ := id bb3.m
            have lmv5 := tmv5.rlen
            refine ⟨_, rfl, ml, _, rfl, .inl (SqL.of hmv5), _, _, rfl, rfl, _, rfl, _, rfl, ml, _, rfl, .inl (SqL.of hmv5), _, _, rfl, a, _, (if (mv5.length : Int) < 4 then (mv5.length : Int) else 4), rfl, bb3.w, by omega, by have := bb3.l1; split <;> omega, Nat.lt_of_le_of_lt (show _ ≤ 1000 by split <;> omega) (by decide +kernel), fun r5 H5 r50' r51 d5 e5 w5 => ⟨_, _, rfl, rfl, ?_⟩⟩
            have r5b : r5 < mv5.length := by
              have := r51
              split at this <;> omega
            have b5 := (bb3).one d5 w5
            obtain ⟨gx5, hgx5⟩ := (bb3).w.lst
            have tl5 := ((tl3.but d3 hgx nla)).but d5 hgx5 nla
            have hm5 := d5 _ _ (bb3).n3 hmv5
            refine ⟨_, rfl, .inl ⟨rfl, _, SqL.of hm5⟩, _, rfl, _, rfl, _, rfl, _, rfl, ml, _, rfl, .inl (SqL.of hm5), a, _, (mv5.length : Int), rfl, w5, by omega, by omega, Nat.lt_of_le_of_lt (show _ ≤ 1000 by omega) (by decide +kernel), fun r6 H6 r60 r61 d6 e6 w6 => ⟨(by show 2 ≤ sizeLine; decide), fun l4 hl4 => ?_⟩⟩
            generalize hG4 : upd _ l4 _ = G4
            obtain ⟨s4, h_l4⟩ := upd_gen hG4 hl4
            refine ⟨_, rfl, a, _, 2, rfl, w6.same s4, by omega, by decide, by decide +kernel, fun r7 H7 r70 r71 d7 e7 w7 => ?_⟩
            obtain ⟨v, iv, ov⟩ := twoN (x := (mv5.length : Int) - 1 - r5) (y := r6) r70 r71
            obtain ⟨x, rfl, xl⟩ : ∃ x : Nat, v = (x : Int) ∧ x < (rows ++ ex).length := by
              rcases ov with e | e
              · exact ⟨((mv5.length : Int) - 1 - r5).toNat, by omega, by omega⟩
              · exact ⟨r6.toNat, by omega, by omega⟩
            have n4 := w6.ne hl4
            refine ⟨l4, _, _, _, rfl, rfl, SqL.of (d7 _ _ n4 h_l4), iv, (by show 3 ≤ sizeLine; decide), fun p hp => ?_⟩
            generalize hG8 : upd _ p _ = G8
            obtain ⟨s8, h_p⟩ := upd_gen hG8 hp
            have b6 := b5.one d6 w6
            have b7 := (b6.new s4).one d7 w7
            have b8 := b7.new s8
            obtain ⟨gx6, hgx6⟩ := b5.w.lst
            obtain ⟨gx7, hgx7⟩ := (b6.new s4).w.lst
            have tl8 := (((tl5.but d6 hgx6 nla).same s4).but d7 hgx7 nla).same s8
            have BB8 := ((((((B3'.trans (.one d3))).trans (.one d5)).trans (.one d6)).trans (.of s4)).trans (.one d7)).trans (.of s8)
            obtain ⟨mv8, hmv8, tmv8⟩ := id b8.m
            have lmv8 := tmv8.rlen
            have em8 : mv8 = mv5 := by
              have := s8 _ _ (d7 _ _ b5.n3 (s4 _ _ (d6 _ _ b5.n3 hm5)))
              rw [hmv8] at this
              injection this with this
              injection this
            subst em8
            refine ⟨ml, _, _, rfl, rfl, hmv8, sl_lt (by omega), ?_⟩
            have hplU : (upd G8 ml (.lst (mv8 ++ [.ref p]))) pl = some (.lst ((ptsK fs en ks (rows ++ ex)).map V.int)) := by
              rw [upd_ne b8.n9.symm]
              exact b8.p
            have hfU := b8.f.but (SameBut.upd (o := .lst (mv8 ++ [.ref p]))) hmv8 b8.n6
            have efk := List.getElem?_eq_getElem kdl
            obtain ⟨fvk, hfvk, tfvk⟩ := id hfU
            obtain ⟨fpk, epk, hfpk⟩ := tfvk.at (i := kd) (xs := (fs[kd]).vs) (by rw [List.getElem?_map, efk]; rfl)
            have bp := FB.push fc b8 hmv8 tmv8 (p := p) (r := .keep kd x) h_p ⟨kdl, xl⟩ trivial
            have epf : rowPt (fpt fs en) (ks.map (fpt fs)) (fs.map (·.pt)) (ptsK fs en ks (rows ++ ex)) (.keep kd x) = (fs[kd]).pt := fpt_at efk
            rw [epf] at bp
            refine ⟨_, rfl, .inl ⟨rfl, _, SqL.of hplU⟩, _, rfl, _, rfl, fl, _, _, .ref fpk, rfl, rfl, SqL.of hfvk, atI_nat epk, fpk, _, 1, .int _, rfl, rfl, SqT.of hfpk, a1, pl, _, _, rfl, rfl, hplU, sl_lt (by rw [List.length_map, ptsK_len]; omega), ?_⟩
            refine ⟨ex ++ [.keep kd x], mv.length, _, rfl, by rw [List.length_append, List.length_singleton]; omega, fun h hh => (hho h hh).into, ⟨x, ?_⟩, (BB8.trans (.two SameBut.upd)).trans (.three SameBut.upd), by rw [← List.append_assoc]; exact bp.mono (by omega), ?_⟩
            · rw [lmv, ← List.append_assoc, List.getElem?_append_right (Nat.le_refl _), Nat.sub_self]
              rfl
            · exact (tl8.but SameBut.upd hmv8 nlm).but SameBut.upd hplU nlp
      obtain ⟨ex2, at4, y11, rfl, lx2, hho2, ⟨yy, eyy⟩, B4, b4, tl4⟩ := hM
      have ef := List.getElem?_eq_getElem kdl
      have efr := frm_at ef
      obtain ⟨fv, hfv, tfv⟩ := id b4.f
      obtain ⟨fp, ep, hfp⟩ := tfv.at (i := kd) (xs := (frm fs kd).vs) (by rw [List.getElem?_map, ef, efr]; rfl)
      have fo : (frm fs kd).Ok := by
        rw [efr]
        exact fc.fo _ (List.getElem_mem kdl)
      obtain ⟨lv, hlv, tlv⟩ := id tl4
      have llv := tlv.len
      rw [List.length_map] at llv
      refine ⟨_, rfl, .inl ⟨rfl, _, SqL.of hlv⟩, _, rfl, _, rfl, _, rfl, fl, _, _, .ref fp, rfl, rfl, SqL.of hfv, atI_nat ep, _, rfl, a, fp, frm fs kd, _, rfl, hfp, fo, b4.w, by omega, by omega, fun s G5 hin sz sb5 w5 => ⟨_, rfl, (by show 3 ≤ sizeLine; decide), fun p hp => ?_⟩⟩
      obtain ⟨gx4, hgx4⟩ := b4.w.lst
      have b5 := b4.one sb5 w5
      generalize hGp : upd _ p _ = G6
      obtain ⟨s6, h_p⟩ := upd_gen hGp hp
      have hlv6 := s6 _ _ (sb5 _ _ nla hlv)
      have tlv6 := (tlv.but sb5 hgx4).same s6
      have b6 := b5.new s6
      have B6 := (B4.trans (.one sb5)).trans (.of s6)
      refine ⟨ll, _, _, rfl, rfl, hlv6, sl_lt (by omega), ex2, hs ++ [⟨kd, s, at4⟩], _, _, _, _, rfl, lx2, ?_, fun h hh => ?_, ?_, ?_, ⟨_, upd_same, ?_⟩⟩
      · rw [List.map_append, hke, List.take_add_one, ekd]
        rfl
      · rcases List.mem_append.mp hh with hh | hh
        · exact hho2 h hh
        · rw [List.mem_singleton.mp hh]
          exact ⟨kdl, hin, sz, yy, eyy⟩
      · refine fun b o n1 n2 n3 e => ?_
        rw [upd_ne (ne_of_none e hll)]
        exact B6 b o n1 n2 n3 e
      · have nlf : fl ≠ ll := by
          obtain ⟨xs, e, _⟩ := b0.f
          exact ne_of_none e hll
        exact (b6.list hlv6 nla.symm nlf nlk nlm.symm nlp.symm).mono (by omega)
      · rw [List.map_append]
        exact TsAt.push hlv6 tlv6 h_p
    · obtain ⟨ex, hs, y8, y9, y10, y11, rfl, lx, hke, hho, B, b, tl⟩ := hP
      rw [List.length_map] at lx hke b
      rw [List.take_length] at hke
      exact ⟨_, rfl, q ex hs ll G lx hke hho B b hll nla nlm nlp tl⟩
end
end E1

namespace E1
open PySem PySem.Spec PyProof.Rows L2
/-! ### str, repr and == by own methods -/
section
variable {X : Cx} {k : Nat} {C f : Addr} {fd : FuncData} {ps : List Str} {sp : Sp}
theorem run_own {pins : List (Addr × Obj)} {σ : L2.St} {H : Hp} {s : Shared} {A' : Around} {Q : VK} {us : List Value} {vs : List V} (F : FnOk X.prog X.w X.K X.mg X.base CX0 k f fd ps sp) (rm : Room k A') (fr : A'.frames = X.A.frames) (hb : Binds X.K fd ps []) (I : Inv X pins σ H s) (r : Vals vs us) (h : sp vs H Q E0) :
    wpAny (model X.prog X.w) A' (call (.ref f) us) (EP X pins σ Q) X.xe s := by
  have e0 : Env0 X.prog X.w X.K X.mg X.base A' X.stack s H := { I.env0 with frames := by rw [fr]; exact I.env0.frames }
  have hl : us.length = ps.length := by rw [← r.length]; exact F.len _ _ _ _ h
  have bb := hb s us I.kIn (by rw [List.append_nil]; exact hl)
  rw [List.append_nil] at bb
  refine wpAny_call (codeAny_mono (F.run A' X.stack s H ⟨us, []⟩ us vs Q E0 rm e0 bb r h) fun r s' hq => ?_)
  match r, hq with
  | .error e, hq => exact (show False from hq).elim
  | .ok (.ret u), hq => exact I.after hq
  | .ok .next, hq => exact hq.elim
  | .ok .brk, hq => exact hq.elim
  | .ok .cont, hq => exact hq.elim
end
end E1
namespace PySem.W
open PySem PySem.Calls PyProof.Rows
section
variable {prog : Program} {w : World} {A : Around} {E : Value → Shared → Prop} {s : Shared} {K : Frag} {x C f : Addr} {ox : Obj} {od : Option Obj} {b tb : Value}
/-- object's own != of an instance with an == of its own -/
theorem own_ne {Q : Value → Shared → Prop} (hu : A.units + 1 < cLine) (X : K.In s.heap) (I : InstAt s.heap x ox C od) (ob : subIn K (.ref C) (.type "object") = some true)
    (hs : findIn K (.ref C) "__eq__" = some (some (.ref f))) (hf : isFn K (.ref f) = true)
    (h : wpAny (model prog w) A.in1 (call (.ref f) [.ref x, b]) (fun v s' => ∃ r, v = .bool r ∧ Q (.bool (!r)) s') E s) :
    wpAny (model prog w) A (call (.builtin "object.__ne__") [.ref x, b]) Q E s := by
  refine wpAny_call (codeAny_call_builtin F.slot_enumerate_ne.plain F.cmpEntry_ne (check_slot F.cmpKind_ne F.cmpSplit_ne (I.type.andThen (looks_subIn X ob)) (F.cmpArgs_ne _ _) ?_))
  unfold Builtin.«object.__ne__»
  have hu1 : A.in1.units < cLine := by first | exact Nat.lt_of_succ_lt hu | exact hu
  repeat (first
    | with_reducible refine wpAny_cRoomFor hu1 ?_
    | (refine wpAny_bind (m := callSpecialIfBound? (.ref x) (Str.ofString "__eq__") [b])
        (ifBound_K X I hs hf (wpAny_mono h (fun v s' hv => ?_) fun _ _ e => e))
       obtain ⟨r, rfl, hq⟩ := hv)
    | (refine wpAny_bind (m := truthy (.bool _)) (wpAny_truthy_bool ?_))
    | exact hq
    | exact wpAny_pure hq
    | wp_step)
  done
/-- != of an instance with an == of its own, by object's != -/
theorem ne_K {Q : Value → Shared → Prop} (hu : A.units + 1 < cLine) (X : K.In s.heap) (I : InstAt s.heap x ox C od) (hb : Looks (model prog w) s.heap (typeOf b) tb) (hn : notFirst K C tb = true) (ob : subIn K (.ref C) (.type "object") = some true)
    (hne : findIn K (.ref C) "__ne__" = some (some (.builtin "object.__ne__"))) (hs : findIn K (.ref C) "__eq__" = some (some (.ref f))) (hf : isFn K (.ref f) = true)
    (h : wpAny (model prog w) A.in1 (call (.ref f) [.ref x, b]) (fun v s' => ∃ r, v = .bool r ∧ Q (.bool (!r)) s') E s) : wpAny (model prog w) A (richCompare .NotEq (.ref x) b) Q E s := by
  have told : wpAny (model prog w) A (tryCompare (.ref x) (cmpInfo .NotEq).2.1 b) (fun r s' => ∃ v, r = some v ∧ Q v s') E s := by
    have made := own_ne (Q := fun v s' => ∃ r, v = .bool r ∧ Q v s') hu X I ob hs hf (wpAny_mono h (fun v s' hv => by
      obtain ⟨r, e, q⟩ := hv
      exact ⟨r, e, _, rfl, q⟩) fun _ _ e => e)
    unfold tryCompare
    refine wpAny_bind ?_
    simp only [callSpecialIfBound?, bindSpecialIfBound?, cmpInfo_NotEq]
    refine wpAny_holding (wpAny_bind (wpAny_bind (wpAny_bind (I.type.here ((looks_findIn X hne).here ?_)))))
    have last : ∀ G : Option Value → Shared → Prop, (∀ r s', Q (.bool r) s' → G (some (.bool r)) s') → wpAny (model prog w) A (call (.builtin "object.__ne__") ([.ref x] ++ [b]) >>= fun v => pure (some v)) G E s := fun G g => wpAny_bind (wpAny_mono made (fun v s' hv => by
      obtain ⟨r, rfl, q⟩ := hv
      exact wpAny_pure (g r s' q)) fun _ _ e => e)
    refine wpAny_bind (wpAny_askSetting (wpAny_ite ?_))
    split
    · rw [F.slot_enumerate_ne.bind]
      exact wpAny_bind (wpAny_pure (wpAny_pure (last _ fun r s' q => wpAny_pure ⟨_, rfl, q⟩)))
    · rw [F.slot_enumerate_ne.bind]
      exact wpAny_tryCatch (wpAny_bind (wpAny_pure (wpAny_pure (last _ fun r s' q => wpAny_pure ⟨_, rfl, q⟩))))
  unfold richCompare
  simp only [oneThing_ref]
  refine wpAny_holding (wpAny_bind (wpAny_cRoomFor (Nat.lt_of_succ_lt hu) ?_))
  refine wpAny_bind (I.type.here (wpAny_bind (hb.here ?_)))
  by_cases q : (Value.ref C != tb) = true
  · have no : subIn K tb (.ref C) = some false := by
      rcases Bool.or_eq_true_iff.mp hn with z | z
      · rw [beq_iff_eq.mp z] at q
        simp at q
      · exact beq_iff_eq.mp z
    rw [if_pos q]
    refine wpAny_bind ((looks_subIn X no).here ?_)
    simp only [Bool.false_eq_true, if_false]
    refine wpAny_bind (wpAny_mono told (fun r s' z => ?_) fun _ _ e => e)
    obtain ⟨v, rfl, hq⟩ := z
    exact wpAny_pure hq
  · rw [if_neg q]
    refine wpAny_bind (wpAny_pure ?_)
    simp only [Bool.false_eq_true, if_false]
    refine wpAny_bind (wpAny_mono told (fun r s' z => ?_) fun _ _ e => e)
    obtain ⟨v, rfl, hq⟩ := z
    exact wpAny_pure hq
end
end PySem.W
namespace GQ
open PySem PySem.SeqAt
open AutoSeq1 (wpAny_loadPart')
open MeetsSeq MeetsSeq2 MeetsSeq3 SeqRoads2
section
variable {prog : Program} {w : World} {A : Around} {R : Result → Shared → Prop}
theorem ne_loopL (l b : Addr) (N : Nat) (I : Nat → Shared → Prop) (both : ListI prog w A (fun e s' => R (.error e) s') l b N I) (fin : ∀ s, I N s → R (.ok (.ret (.bool false))) s) :
    ∀ (k i : Nat), N - i = k → i ≤ N → ∀ s, I i s → wpAny (model prog w) A.in1 (Builtin.«list.__eq__.loop» ⟨[.ref l, .ref b, rawInt i, rawInt 3], []⟩) (FinOf prog w A R) (fun e s' => R (.error e) s') s
  | 0, i, hk, hi, s, h => by
    obtain ⟨xs, ys, nx, ny, atl, atb, zx, zy, _⟩ := both _ _ h
    obtain rfl : i = N := by omega
    have told := fin s h
    obtain ⟨hp, g, d, tk, os⟩ := s
    wp_walk using wpAny_loadPart' atl, wpAny_loadPart' atb
    have nox : xs[((i : Nat) : Int).toNat]? = none := by simp; omega
    have noy : ys[((i : Nat) : Int).toNat]? = none := by simp; omega
    rw [nox, noy]
    wp_walk using wpAny_loadPart' atl, wpAny_loadPart' atb
    show R (.ok (.ret (.bool (xs.size != ys.size)))) _
    rw [zx, zy]
    simpa using told
  | k + 1, i, hk, hi, s, h => by
    obtain ⟨xs, ys, nx, ny, atl, atb, zx, zy, turn⟩ := both _ _ h
    have ix : i < xs.size := by omega
    have iy : i < ys.size := by omega
    have once := turn ix iy
    obtain ⟨hp, g, d, tk, os⟩ := s
    wp_walk using wpAny_loadPart' atl, wpAny_loadPart' atb
    have gx : xs[((i : Nat) : Int).toNat]? = some xs[i] := by simp [ix]
    have gy : ys[((i : Nat) : Int).toNat]? = some ys[i] := by simp [iy]
    rw [gx, gy]
    refine wpAny_bind (wpAny_mono once (fun r s2 q2 => ?_) fun _ _ x => x)
    obtain ⟨rfl, q2⟩ := q2
    have rest := ne_loopL l b N I both fin k (i + 1) (by omega) (by omega) s2 q2
    obtain ⟨hp2, g2, d2, tk2, os2⟩ := s2
    wp_walk
    rw [show ((i : Int) + 1) = ((i + 1 : Nat) : Int) by omega]
    exact ⟨plainId_quiet plain_eq_loop _, codeAny_builtin entry_eq_loop (by
      rw [Around.under_plainId plain_eq_loop _]
      exact rest)⟩
theorem list_neL (l b : Addr) (N : Nat) (I : Nat → Shared → Prop) (both : ListI prog w A (fun e s' => R (.error e) s') l b N I) (fin : ∀ s, I N s → R (.ok (.ret (.bool false))) s) {s : Shared} (h : I 0 s) :
    wpAny (model prog w) A.in1 (Builtin.«list.__ne__» ⟨[.ref l, .ref b], []⟩) (FinOf prog w A R) (fun e s' => R (.error e) s') s := by
  have ⟨xs, ys, nx, ny, atl, atb, zx, zy, _⟩ := both _ _ h
  have rest := ne_loopL (A := A) (R := R) l b N I both fin _ 0 rfl (Nat.zero_le _) s h
  obtain ⟨hp, g, d, tk, os⟩ := s
  have under := AutoSeq1.sub_list_list
  have alike : ¬ (xs.size != ys.size) = true := by simp [zx, zy]
  wp_walk using wpAny_loadPart' atl, wpAny_loadPart' atb
  exact ⟨plainId_quiet plain_eq_loop _, codeAny_builtin entry_eq_loop (by
    rw [Around.under_plainId plain_eq_loop _]
    exact rest)⟩
end
section
variable {prog : Program} {w : World} {A : Around} {E : Value → Shared → Prop} {s : Shared}
theorem rcNe_listL {l b : Addr} {N : Nat} {Q : Value → Shared → Prop} (hu : A.units < cLine) (I : Nat → Shared → Prop) (both : ListI prog w A E l b N I) (fin : ∀ s, I N s → Q (.bool false) s) (h : I 0 s) : wpAny (model prog w) A (richCompare .NotEq (.ref l) (.ref b)) Q E s := by
  have ⟨xs, ys, nx, ny, atl, atb, _, _, _⟩ := both _ _ h
  refine wpAny_richCompare_same_room (op := .NotEq) ⟨_, atl, rfl⟩ ⟨_, atb, rfl⟩ F.slot_list_ne (call_here F.slot_list_ne ⟨_, atl, rfl⟩ F.entry_list_ne (F.args_list_ne_2 _ _) ?_) hu
  exact list_neL (R := wants (fun v s' => v ≠ .notImplemented ∧ Q v s') E) l b N I both (fun s' q => ⟨(fun z => nomatch z), fin s' q⟩) h
end
end GQ
namespace L2
open PySem PySem.Spec PyProof.Rows
section
variable {X : Cx} {n : Nat} {D : Eqv}
/-- x != y of two that are alike -/
def rNeG (D : Eqv) : R2 := fun x y H Q => D x y H ∧ ∀ H', Ext H H' → Q (.bl false) H'
def RcNe (X : Cx) (n : Nat) (D : Eqv) : Prop := ∀ (A : Around) (pins : List (Addr × Obj)) (s : Shared) (σ : St) (H : Hp) (x y : V) (u v : Value), Sub X n A → Inv X pins σ H s → RelV x u → RelV y v → D x y H →
  wpAny (model X.prog X.w) A (richCompare .NotEq u v) (fun r s' => r = .bool false ∧ ∃ H', Inv X pins σ H' s' ∧ Ext H H') X.xe s
theorem op_neG (h : RcNe X n D) (hr : Room n X.A) : OpR X (compareOp .NotEq) (rNeG D) := by
  intro pins s σ H x y v u Q I rx ry hq
  obtain ⟨d, q⟩ := hq
  show wpAny (model X.prog X.w) X.A (richCompare .NotEq v u) (EP X pins σ Q) X.xe s
  refine wpAny_mono (h X.A pins s σ H x y v u ⟨hr, rfl⟩ I rx ry d) (fun r s' z => ?_) fun _ _ e => e
  obtain ⟨rfl, H', I', e⟩ := z
  exact ⟨.bl false, H', I', rfl, q H' e⟩
theorem rcNe_list (hD : Mon D) (h : EqG X n D) : RcNe X (n + 1) (DList D) := by
  intro A pins s σ H x y u v sb I rx ry d
  obtain ⟨a, b, xs, ys, rfl, rfl, ha, hb, p⟩ := d
  cases rx
  cases ry
  refine GQ.rcNe_listL (N := xs.length) sb.room.units0 (fun _ s' => LoopI X pins σ H s') (fun i s' q => ?_) (fun s' q => ⟨rfl, q⟩) ⟨H, I, Ext.rfl'⟩
  have ⟨H1, I1, e1⟩ := q
  obtain ⟨_, its, k, r, e⟩ := I1.hok a _ (e1 _ _ ha)
  obtain ⟨_, its2, k2, r2, e2⟩ := I1.hok b _ (e1 _ _ hb)
  have z1 : its.toArray.size = xs.length := by rw [List.size_toArray, ← r.length]
  have z2 : its2.toArray.size = xs.length := by rw [List.size_toArray, ← r2.length, ← p.1]
  exact ⟨_, _, k, k2, e, e2, z1, z2, fun h1 h2 => turnG hD h sb p r r2 i h1 h2 s' q⟩
/-- what the written part says of a class with an == and no != -/
structure NoNe (K : PySem.W.Frag) (C : Addr) : Prop where
  ne : PySem.W.findIn K (.ref C) "__ne__" = some (some (.builtin "object.__ne__"))
  ob : PySem.W.subIn K (.ref C) (.type "object") = some true
theorem rcNe_ins {C f : Addr} {fd : FuncData} {ps : List Str} {R : Addr → Addr → Hp → Prop} (N : NoNe X.K C) (F : FnOk X.prog X.w X.K X.mg X.base CX0 n f fd ps (spEq R))
    (hs : PySem.W.findIn X.K (.ref C) "__eq__" = some (some (.ref f))) (hf : PySem.W.isFn X.K (.ref f) = true) (hb : Binds X.K fd ps []) : RcNe X (n + 1) (DIns C R) := by
  intro A pins s σ H x y u v sb I rx ry d
  obtain ⟨a, b, dx, dy, fs, gs, rfl, rfl, ha, hb', hr⟩ := d
  cases rx
  cases ry
  obtain ⟨mA, J, _⟩ := ins_get I.hok ha
  obtain ⟨mB, J', _⟩ := ins_get I.hok hb'
  obtain ⟨od, J, _⟩ := J.look
  obtain ⟨od', J', _⟩ := J'.look
  have rm : Room n A.in1 := sb.room.in1
  have r2 : Vals [V.ref a, V.ref b] [Value.ref a, Value.ref b] := .cons rfl (.cons rfl .nil)
  refine PySem.W.ne_K (tb := .ref C) (by have := sb.room.units; omega) I.kIn J J'.type (by simp [PySem.W.notFirst]) N.ob N.ne hs hf (wpAny_mono (E1.run_own (vs := [.ref a, .ref b]) (Q := fun z H' => z = .bl true ∧ Ext H H') F rm (by rw [Around.in1_frames]; exact sb.fr) hb I r2 ⟨a, b, rfl, hr, fun H' e => ⟨rfl, e⟩⟩) (fun v s' hv => ?_) fun _ _ e => e)
  obtain ⟨z, H', I', rz, rfl, e⟩ := hv
  obtain rfl : v = .bool true := rz
  exact ⟨true, rfl, rfl, H', I', e⟩
end
end L2

namespace E1
open PySem PySem.Spec PyProof.Rows L2

def PartsX (H : Hp) (p : Addr) (n : NetP) : Prop := ∃ fa ra ha tl, H p = some (.tup (.ref fa :: .int n.en :: .ref ra :: .ref ha :: .int n.out :: tl)) ∧ TL7 H fa (n.fs.map FormP.vs) ∧ TL7 H ra (n.rows.map Row.vs) ∧ TL7 H ha (n.holds.map Hold.vs)
theorem PartsX.same {H H' : Hp} {p : Addr} {n : NetP} (h : PartsX H p n) (s : Same H H') : PartsX H' p n := by
  obtain ⟨fa, ra, ha, tl, h1, h2, h3, h4⟩ := h
  exact ⟨fa, ra, ha, tl, s _ _ h1, h2.same s, h3.same s, h4.same s⟩
theorem fat_one {C : Addr} {H : Hp} {p : Addr} {f : FormP} (h : FAt C H p f) : FsAt C H [.ref p] [f] := .cons h .nil
theorem make_same {G : Hp} {x dx C : Addr} (hx : G x = none) (hdx : G dx = none) (ne : dx ≠ x) : Same G (upd (upd G dx (.own x)) x (.ins C dx [])) :=
  (same_new hdx).trans (same_new (by rw [upd_ne ne.symm]; exact hx))
def spLMade2 (C CN : Addr) : Sp := fun vs H Q _ => ∃ (hp : Addr) (n : NetP), vs = [.ref hp] ∧ PartsX H hp n ∧ NetOk n ∧ ∀ p H', Same H H' → NetAt C CN H' p n → Q (.ref p) H'
section
variable {P : Program} {w : World} {K : PySem.W.Frag} {mg : Str → Option Value} {base : Heap}
theorem sc__law_made : FnScope ["_law_net_here", "_law_forms", "_law_width", "_law_point_here", "_law_manner", "_law_ends"] ["_law_net_here"] (defScope s__law_made) := ⟨rfl, rfl, rfl, by decide +kernel, rfl, by decide +kernel, by decide +kernel⟩
theorem ok__law_made {f : Addr} {fd : FuncData} {C CN : Addr} (F : Fun K "_law_made" "_law_made" s__law_made f fd) (z : Zs mg) (c_Form_4 : CalC P w K mg base 3 "Form" C ["self", "width", "point", "manner", "ends"] [] (spInit C)) (c_Net_5 : CalC P w K mg base 6 "Net" CN ["self", "forms", "enters", "rows", "holds", "out"] [] (spNetInit C CN)) : FnOk P w K mg base CX0 8 f fd ["_law_net_here"] (spLMade2 C CN) := by
  refine F.ok sc__law_made (fun vs H Q E h => ?_) (fun cdv A outer s H vs Q E hr h => ?_)
  · obtain ⟨hp, n, rfl, _⟩ := h
    rfl
  · obtain ⟨hp, n, rfl, ⟨fa, ra, ha, tl0, hhp, ⟨fv, hfa, tf⟩, ⟨rv, hra, tr⟩, ⟨hv, hha, th⟩⟩, ok, q⟩ := h
    refine ⟨_, (pss_cons (ps_setLc (i := 1) (own := [("_law_width", 2), ("_law_point_here", 3), ("_law_manner", 4), ("_law_ends", 5)]) (g := gTup K 4 (gCons (gName 2) (gCons (gName 3) (gCons (gName 4) (gCons (gName 5) gNil))))) (tt := tYes) (te := tMake C (spInit C) [] E0 (tCons (tVar 2) (tCons (tVar 3) (tCons (tVar 4) (tCons (tVar 5) tNil))))) (by rfl) sc__law_made.nd rfl rfl (sw_true rfl rfl rfl (by decide +kernel)) (pi_list (pe_ix ix_tup (pv 0) pe_int (fun _ _ => rfl))) (blkOk_by (own := [("_law_width", 2), ("_law_point_here", 3), ("_law_manner", 4), ("_law_ends", 5)]) (N := ["_law_net_here", "_law_forms", "_law_width", "_law_point_here", "_law_manner", "_law_ends"]) (sc := defScope s__law_made) (by decide +kernel)) (fun _ _ _ _ _ => by exact (pg_tup (by rfl) (pgs_cons (pg_name (i := 2) sc__law_made.nd rfl (.inl rfl)) (pgs_cons (pg_name (i := 3) sc__law_made.nd rfl (.inl rfl)) (pgs_cons (pg_name (i := 4) sc__law_made.nd rfl (.inl rfl)) (pgs_cons (pg_name (i := 5) sc__law_made.nd rfl (.inl rfl)) pgs_nil)))))) (fun _ _ _ _ _ => by exact pts_nil) (fun _ _ _ _ _ => by exact (pe_calc c_Form_4 hr (pa_cons (pv 2) (pa_cons (pv 3) (pa_cons (pv 4) (pa_cons (pv 5) pa_nil)))))))
      (pss_one (ps_ret (pe_calc c_Net_5 hr (pa_cons (pv 1) (pa_cons (pe_ix ix_tup (pv 0) pe_int (fun _ _ => rfl)) (pa_cons (pe_callTy call_list_of (by rfl) z.list (by decide +kernel) (pa_cons (pe_ix ix_tup (pv 0) pe_int (fun _ _ => rfl)) pa_nil)) (pa_cons (pe_callTy call_list_of (by rfl) z.list (by decide +kernel) (pa_cons (pe_ix ix_tup (pv 0) pe_int (fun _ _ => rfl)) pa_nil)) (pa_cons (pe_ix ix_tup (pv 0) pe_int (fun _ _ => rfl)) pa_nil))))))))), ?_⟩
    have lf := tf.len
    rw [List.length_map] at lf
    have f12 := ok.f2
    refine ⟨_, rfl, hp, _, 0, .ref fa, rfl, rfl, SqT.of hhp, a0, fa, rfl, ⟨_, SqL.of hfa⟩, fun D hD => ?_⟩
    refine lc_it (walk_list (K := K) (a := fa) (xs := fv)) (fun i G => Same H G ∧ ∃ ws, G D = some (.lst ws) ∧ FsAt C G ws (n.fs.take i)) ⟨same_new hD, [], upd_same, .nil⟩ (fun i G _ hP => SqL.of (hP.1 _ _ hfa)) (fun i x G G' hi hP hY => ?_) (fun G hP => ?_)
    · obtain ⟨s1, ws, hd, fw⟩ := hP
      obtain ⟨rfl, hx⟩ := hY
      obtain ⟨p, xs, rfl, exs, hp'⟩ := tf.get hx
      rw [List.getElem?_map] at exs
      obtain ⟨f, ef, rfl⟩ := Option.map_eq_some_iff.mp exs
      have hp2 := s1 _ _ hp'
      have fo := ok.fo f (List.mem_of_getElem? ef)
      have lw := fw.len
      rw [List.length_take] at lw
      refine ⟨p, _, rfl, SqT.of hp2, rfl, _, _, rfl, _, _, rfl, _, _, rfl, _, _, rfl, rfl, rfl, _, rfl, _, rfl, _, rfl, _, rfl, fun x dx hx0 hdx ne => ?_⟩
      have sM := make_same (C := C) hx0 hdx ne
      refine ⟨x, dx, f.w, f.pt, f.m, f.st, rfl, fo.wo, fo.p0, fo.p1, upd_same, fun H2 hF fr1 fr2 => ⟨rfl, ?_⟩⟩
      have S2 : Same G' H2 := fun b o e => fr1 b o (ne_of_none e hx0) (sM _ _ e)
      have hd2 := S2 _ _ hd
      refine ⟨ws, hd2, sl_lt (by omega), fun b o e => ?_, _, upd_same, ?_⟩
      · rw [upd_ne (ne_of_none e hD)]
        exact S2 _ _ (s1 _ _ e)
      · rw [List.take_add_one, ef]
        exact ((fw.same S2).app (fat_one hF)).butL SameBut.upd hd2
    obtain ⟨s1, ws, hd, fw⟩ := hP
    rw [lf, List.take_length] at fw
    refine ⟨_, rfl, _, rfl, hp, _, 1, .int n.en, rfl, rfl, SqT.of (s1 _ _ hhp), a1, _, rfl, hp, _, 2, .ref ra, rfl, rfl, SqT.of (s1 _ _ hhp), a2, _, _, rfl, .inl (SqL.of (s1 _ _ hra)), fun r2 hr2 => ?_⟩
    generalize hG : upd _ r2 _ = G2
    obtain ⟨s2, h_r2⟩ := upd_gen hG hr2
    have S2 := s1.trans s2
    refine ⟨_, rfl, hp, _, 3, .ref ha, rfl, rfl, SqT.of (S2 _ _ hhp), atI_nat (j := 3) rfl, _, _, rfl, .inl (SqL.of (S2 _ _ hha)), fun h2 hh2 => ?_⟩
    generalize hG3 : upd _ h2 _ = G3
    obtain ⟨s3, h_h2⟩ := upd_gen hG3 hh2
    have S3 := S2.trans s3
    refine ⟨_, rfl, hp, _, 4, .int n.out, rfl, rfl, SqT.of (S3 _ _ hhp), atI_nat (j := 4) rfl, fun x dx hx0 hdx ne => ?_⟩
    have sM := make_same (C := CN) hx0 hdx ne
    have S4 := S3.trans sM
    refine ⟨x, dx, D, r2, h2, n, ws, rv, hv, rfl, upd_same, sM _ _ (s3 _ _ (s2 _ _ hd)), ((fw.same s2).same s3).same sM, sM _ _ (s3 _ _ h_r2), tr.same S4, sM _ _ h_h2, th.same S4, ok, fun H2 hN fr1 => ⟨rfl, q x H2 (fun b o e => fr1 b o (ne_of_none (S3 _ _ e) hx0) (S4 _ _ e)) hN⟩⟩
end
end E1

namespace E1
open PySem PySem.Spec PyProof.Rows L2

def Parts6 (H : Hp) (p : Addr) (n : NetP) : Prop := ∃ fa ra ha pa, H p = some (.tup [.ref fa, .int n.en, .ref ra, .ref ha, .int n.out, .ref pa]) ∧ TL7 H fa (n.fs.map FormP.vs) ∧ TL7 H ra (n.rows.map Row.vs) ∧ TL7 H ha (n.holds.map Hold.vs) ∧ H pa = some (.lst (n.pts.map V.int))
theorem Parts6.same {H H' : Hp} {p : Addr} {n : NetP} (h : Parts6 H p n) (s : Same H H') : Parts6 H' p n := by
  obtain ⟨fa, ra, ha, pa, h1, h2, h3, h4, h5⟩ := h
  exact ⟨fa, ra, ha, pa, s _ _ h1, h2.same s, h3.same s, h4.same s, s _ _ h5⟩
def sp2Built : Sp := fun vs H Q _ => ∃ (a fl kl : Addr) (fs : List FormP) (en : Nat) (ks : List Nat) (most : Nat) (c : Int), vs = [.ref a, .ref fl, .int en, .ref kl, .int most] ∧ TL7 H fl (fs.map FormP.vs) ∧ H kl = some (.lst (ks.map nI)) ∧ FC fs en ks ∧ WellAt H a c ∧ fl ≠ a ∧ kl ≠ a ∧ 1 ≤ most ∧ most ≤ 20 ∧ 0 ≤ c ∧ c ≤ 1000 ∧
  ∀ (n : NetP) (p : Addr) (H' : Hp), NetOk n → n.fs = fs → (∀ h ∈ n.holds, h.s.natAbs < 2 ^ 110) → n.rows.length ≤ 40 → SameBut a H H' → H p = none → p ≠ a → Parts6 H' p n → Q (.ref p) H'
def sp2Net : Sp := fun vs H Q _ => ∃ (a wl : Addr) (ws : List (Option Int)) (most : Nat), vs = [.ref a, .ref wl, .int most] ∧ WellAt H a 0 ∧ H wl = some (.lst (ws.map wV)) ∧ 1 ≤ ws.length ∧ ws.length ≤ 100 ∧ (∀ w ∈ ws, WOk w) ∧ wl ≠ a ∧ 1 ≤ most ∧ most ≤ 20 ∧
  ∀ (n : NetP) (p : Addr) (H' : Hp), NetOk n → (∀ f ∈ n.fs, f.w ∈ ws) → n.fs.length ≤ 3 → (∀ h ∈ n.holds, h.s.natAbs < 2 ^ 110) → n.rows.length ≤ 40 → SameBut a H H' → H p = none → p ≠ a → Parts6 H' p n → Q (.ref p) H'
theorem beg_row {hc fc i : Nat} {r : Row} (h : BegOk hc r) : RowOk hc fc i r := by
  cases r with
  | inn => trivial
  | old k => exact h
  | _ => exact h.elim
theorem beg_pt {hc : Nat} {pts : List Int} {r : Row} (h : BegOk hc r) : PtB pts r := by
  cases r with
  | inn => trivial
  | old k => trivial
  | _ => exact h.elim
theorem ptsK_next {fs : List FormP} {en : Nat} {ks : List Nat} {rows : List Row} {i : Nat} {r : Row} (h : rows[i]? = some r) : ptsK fs en ks (rows.take (i + 1)) = ptsK fs en ks (rows.take i) ++ [rowPt (fpt fs en) (ks.map (fpt fs)) (fs.map (·.pt)) (ptsK fs en ks (rows.take i)) r] := by
  rw [List.take_add_one, h, Option.toList_some, ptsK_snoc]
theorem beg_bd {fs : List FormP} {en : Nat} {ks : List Nat} (fc : FC fs en ks) : ∀ (k : Nat) (rows : List Row), rows.length = k → (∀ r ∈ rows, BegOk ks.length r) → ∀ p ∈ ptsK fs en ks rows, -160 ≤ p ∧ p ≤ 160
  | 0, rows, h, _ => by
    rw [List.length_eq_zero_iff.mp h]
    exact fun p hp => nomatch hp
  | k + 1, rows, h, hb => by
    obtain ⟨a, r, rfl⟩ : ∃ a r, rows = a ++ [r] := by
      rcases List.eq_nil_or_concat rows with rfl | ⟨a, r, e⟩
      · cases h
      · exact ⟨a, r, by rw [e, List.concat_eq_append]⟩
    rw [List.length_append, List.length_singleton] at h
    have ih := beg_bd fc k a (by omega) fun x hx => hb x (List.mem_append_left _ hx)
    have hr := hb r (List.mem_append_right _ (List.mem_singleton_self _))
    intro p hp
    rw [ptsK_snoc] at hp
    rcases List.mem_append.mp hp with hp | hp
    · exact ih p hp
    · rw [List.mem_singleton.mp hp]
      exact row_bd fc ih (beg_row hr) (beg_pt hr)

theorem Parts6.x {H : Hp} {p : Addr} {n : NetP} (h : Parts6 H p n) : PartsX H p n := by
  obtain ⟨fa, ra, ha, pa, h1, h2, h3, h4, _⟩ := h
  exact ⟨fa, ra, ha, _, h1, h2, h3, h4⟩
theorem TsAt.set {H : Hp} {vs : List V} {xss : List (List V)} (h : TsAt H vs xss) {q : Addr} {ys : List V} (e : H q = some (.tup ys)) : ∀ i, TsAt H (vs.set i (.ref q)) (xss.set i ys) := by
  induction h with
  | nil => exact fun _ => .nil
  | cons e0 r ih =>
    intro i
    cases i with
    | zero => exact .cons e r
    | succ i => exact .cons e0 (ih i)
theorem ixN_last {n : Nat} (h : 0 < n) : ixN n (-1) = some (n - 1) := by
  unfold ixN
  rw [if_neg (by decide), if_pos (by omega)]
  rw [show ((-1 : Int) + (n : Int)).toNat = n - 1 by omega]
section
variable {P : Program} {w : World} {K : PySem.W.Frag} {mg : Str → Option Value} {base : Heap}
theorem sc__law_built_of : FnScope ["_law_well_here", "_law_forms", "_law_enters", "_law_held", "_law_most", "_law_rows", "_law_points", "_law_row", "_law_net_here", "_law_holds"] ["_law_well_here", "_law_forms", "_law_enters", "_law_held", "_law_most"] (defScope s__law_built_of) := ⟨rfl, rfl, rfl, by decide +kernel, rfl, by decide +kernel, by decide +kernel⟩
theorem ok__law_built_of {f : Addr} {fd : FuncData} (F : Fun K "_law_built_of" "_law_built_of" s__law_built_of f fd) (z : Zs mg) (c__law_draw : Cal P w K mg base 1 "_law_draw" ["_law_well_here", "_law_many"] spDraw) (c__law_point : Cal P w K mg base 1 "_law_point" ["_law_row", "_law_points", "_law_forms", "_law_enters", "_law_held"] sp2Point) (c__law_begun : Cal P w K mg base 3 "_law_begun" ["_law_well_here", "_law_held"] sp2Begun) (c__law_filled : Cal P w K mg base 4 "_law_filled" ["_law_well_here", "_law_net_here", "_law_many"] sp2Fill) (c__law_links : Cal P w K mg base 3 "_law_links" ["_law_well_here", "_law_net_here"] sp2Links) : FnOk P w K mg base CX0 5 f fd ["_law_well_here", "_law_forms", "_law_enters", "_law_held", "_law_most"] sp2Built := by
  refine F.ok sc__law_built_of (fun vs H Q E h => ?_) (fun cdv A outer s H vs Q E hr h => ?_)
  · obtain ⟨a, fl, kl, fs, en, ks, most, c, rfl, _⟩ := h
    rfl
  · obtain ⟨a, fl, kl, fs, en, ks, most, c, rfl, hfl0, hkl, fc, hw, nfa, nka, m1, m20, c0, c1, q⟩ := h
    refine ⟨_, (pss_cons (ps_set (i := 5) sc__law_built_of.nd rfl (.inl rfl) (pe_cal c__law_begun hr (pa_cons (pv 0) (pa_cons (pv 3) pa_nil))))
      (pss_cons (ps_set (i := 6) sc__law_built_of.nd rfl (.inl rfl) (pe_lst pa_nil))
      (pss_cons (ps_for PassesOwn.never rfl (pi_list (pv 5)) (pg_name (i := 7) sc__law_built_of.nd rfl (.inl rfl)) (pss_one (ps_expr (pe_bm PySem.F.plainAttrs_list PySem.F.slot_list_append PySem.F.type_list_append mt_append (pv 6) (pa_cons (pe_cal c__law_point hr (pa_cons (pv 7) (pa_cons (pv 6) (pa_cons (pv 1) (pa_cons (pv 2) (pa_cons (pv 3) pa_nil)))))) pa_nil)))))
      (pss_cons (ps_set (i := 8) sc__law_built_of.nd rfl (.inl rfl) (pe_tup (pa_cons (pv 1) (pa_cons (pv 2) (pa_cons (pv 5) (pa_cons (pv 3) (pa_cons (pv 6) pa_nil)))))))
      (pss_cons (ps_expr (pe_cal c__law_filled hr (pa_cons (pv 0) (pa_cons (pv 8) (pa_cons (pe_cal c__law_draw hr (pa_cons (pv 0) (pa_cons (pv 4) pa_nil))) pa_nil)))))
      (pss_cons (ps_set (i := 9) sc__law_built_of.nd rfl (.inl rfl) (pe_cal c__law_links hr (pa_cons (pv 0) (pa_cons (pv 8) pa_nil))))
      (pss_cons (ps_expr (pe_cal c__law_filled hr (pa_cons (pv 0) (pa_cons (pv 8) (pa_cons (pe_cal c__law_draw hr (pa_cons (pv 0) (pa_cons pe_int pa_nil))) pa_nil)))))
      (pss_one (ps_ret (pe_tup (pa_cons (pv 1) (pa_cons (pv 2) (pa_cons (pv 5) (pa_cons (pv 9) (pa_cons (pe_cal c__law_draw hr (pa_cons (pv 0) (pa_cons (pe_callB call_len_seq (by rfl) z.len PySem.boot_len (pa_cons (pv 5) pa_nil)) pa_nil))) (pa_cons (pv 6) pa_nil)))))))))))))))), ?_⟩
    obtain ⟨wxs, hwx⟩ := hw.lst
    obtain ⟨fv0, hfv0, tfv0⟩ := id hfl0
    have k5 := fc.k5
    refine ⟨_, rfl, _, rfl, a, kl, ks, c, rfl, hkl, k5, hw, nka, c0, by omega, fun rows ml H1 hbg l1 l8 sb1 w1 nma ml0 tml => ?_⟩
    have hkl1 := sb1 _ _ nka hkl
    have tfl1 := hfl0.but sb1 hwx nfa
    obtain ⟨mv, hmv, tmv⟩ := id tml
    have lmv := tmv.rlen
    refine ⟨(by show 0 ≤ sizeLine; decide), fun pl hpl0 => ?_⟩
    generalize hG0 : upd _ pl _ = G0
    obtain ⟨s0, h_pl⟩ := upd_gen hG0 hpl0
    have npa : pl ≠ a := w1.ne hpl0
    have nmp : ml ≠ pl := ne_of_none hmv hpl0
    have nkp : kl ≠ pl := ne_of_none hkl1 hpl0
    obtain ⟨fv1, hfv1, tfv1⟩ := id tfl1
    have nfp : fl ≠ pl := ne_of_none hfv1 hpl0
    have nkm : kl ≠ ml := ne_of_none hkl ml0
    have nfm : fl ≠ ml := ne_of_none hfv0 ml0
    have pl00 : H pl = none := same_free sb1 hwx hpl0 npa
    refine ⟨_, rfl, ml, rfl, ⟨_, SqL.of (s0 _ _ hmv)⟩, ?_⟩
    refine for_it (walk_list (K := K) (a := ml) (xs := mv)) (fun i σ G => ∃ y : Option V, σ = [some (.ref a), some (.ref fl), some (.int (en : Nat)), some (.ref kl), some (.int (most : Nat)), some (.ref ml), some (.ref pl), y, none, none] ∧ SameBut pl G0 G ∧ G pl = some (.lst ((ptsK fs en ks (rows.take i)).map V.int))) ⟨none, rfl, SameBut.refl _ _, h_pl⟩ (fun i σ G hi hP => ?_) (fun i v σ G G' hi hP hY => ?_) (fun σ G hP => ?_)
    · obtain ⟨y, rfl, B, _⟩ := hP
      exact SqL.of (B _ _ nmp (s0 _ _ hmv))
    · obtain ⟨y, rfl, B, hd⟩ := hP
      obtain ⟨rfl, hx⟩ := hY
      obtain ⟨rp, xs, rfl, ex, hrp⟩ := tmv.get hx
      rw [List.getElem?_map] at ex
      obtain ⟨r, er, rfl⟩ := Option.map_eq_some_iff.mp ex
      have il := (List.getElem?_eq_some_iff.mp er).1
      have hb := hbg r (List.mem_of_getElem? er)
      have lp : (ptsK fs en ks (rows.take i)).length = i := by
        rw [ptsK_len, List.length_take]
        omega
      refine ⟨_, rfl, .inl ⟨rfl, _, SqL.of hd⟩, _, rfl, _, rfl, _, rfl, _, rfl, _, rfl, rp, pl, fl, kl, r, _, fs, en, ks, rfl, B _ _ (ne_of (s0 _ _ hrp) h_pl (fun z => nomatch z)) (s0 _ _ hrp), hd, (tfl1.same s0).but B h_pl nfp, B _ _ nkp (s0 _ _ hkl1), fc.en, fc.ko, beg_row hb, ?_⟩
      refine ⟨pl, _, _, rfl, rfl, hd, sl_lt (by rw [List.length_map, lp]; omega), _, rfl, B.trans SameBut.upd, ?_⟩
      rw [upd_same, ptsK_next er, List.map_append]
      rfl
    obtain ⟨y, rfl, B, hd⟩ := hP
    rw [lmv, List.take_length] at hd
    have w2 := (w1.same s0).but B npa.symm
    have b : FB G a fl kl ml pl fs en ks rows (c + 30) := ⟨w2, (tfl1.same s0).but B h_pl nfp, B _ _ nkp (s0 _ _ hkl1), (tml.same s0).but B h_pl nmp, hd, nka, nfa, nma, npa, nkm, nfm, nkp, nfp, nmp, fun i r e => beg_row (hbg r (List.mem_of_getElem? e)), beg_bd fc _ rows rfl hbg, l1⟩
    have BB : SameBut a H G := fun x o n e => B x o (ne_of_none e pl00) (s0 _ _ (sb1 _ _ n e))
    clear hd w2 B hG0 s0 h_pl tfl1 tml hmv tmv lmv hfv1 tfv1 hkl1 w1
    refine ⟨_, rfl, _, rfl, _, rfl, _, rfl, _, rfl, (by show 5 ≤ sizeLine; decide), fun np hnp => ?_⟩
    generalize hG1 : upd _ np _ = G1
    obtain ⟨s1, h_np⟩ := upd_gen hG1 hnp
    have b1 := b.new s1
    refine ⟨_, rfl, _, rfl, _, rfl, _, rfl, a, _, (most : Int), rfl, b1.w, by omega, by omega, Nat.lt_of_le_of_lt (show _ ≤ 1000 by omega) (by decide +kernel), fun r2 H2 r20 r21 d2 e2 w2 => ?_⟩
    obtain ⟨m2, rfl⟩ : ∃ m : Nat, r2 = m := ⟨r2.toNat, by omega⟩
    have nnp := b.w.ne hnp
    have h_np2 := d2 _ _ nnp h_np
    refine ⟨a, np, fl, kl, ml, pl, fs, en, ks, rows, m2, _, rfl, h_np2, fc, b1.one d2 w2, by omega, by omega, by omega, by omega, fun ex3 H3 lx3 B3a b3 => ?_⟩
    have nmn : np ≠ ml := by
      obtain ⟨x, e, _⟩ := b1.m
      exact ne_of h_np e (fun z => nomatch z)
    have npn : np ≠ pl := ne_of h_np b1.p (fun z => nomatch z)
    have h_np3 := B3a _ _ nnp nmn npn h_np2
    have lr3 : (rows ++ ex3).length = rows.length + m2 := by rw [List.length_append, lx3]
    refine ⟨_, rfl, _, rfl, a, np, fl, kl, ml, pl, fs, en, ks, rows ++ ex3, _, rfl, h_np3, fc, b3, by omega, by omega, by omega, fun ex4 hs ll H4 lx4 hke hho B4 b4 ll0 nla nlm nlp tll => ?_⟩
    have h_np4 := B4 _ _ nnp nmn npn h_np3
    have lr4 : (rows ++ ex3 ++ ex4).length ≤ rows.length + m2 + 5 := by rw [List.length_append]; omega
    refine ⟨_, rfl, _, rfl, _, rfl, a, _, 3, rfl, b4.w, by omega, by decide, by decide +kernel, fun r5 H5 r50 r51 d5 e5 w5 => ?_⟩
    obtain ⟨m5, rfl⟩ : ∃ m : Nat, r5 = m := ⟨r5.toNat, by omega⟩
    have b5 := b4.one d5 w5
    refine ⟨a, np, fl, kl, ml, pl, fs, en, ks, rows ++ ex3 ++ ex4, m5, _, rfl, d5 _ _ nnp h_np4, fc, b5, by omega, by omega, by omega, by omega, fun ex6 H6 lx6 B6 b6 => ?_⟩
    have lr6 : (rows ++ ex3 ++ ex4 ++ ex6).length ≤ rows.length + m2 + 5 + 2 := by rw [List.length_append]; omega
    obtain ⟨gx4, hgx4⟩ := b4.w.lst
    obtain ⟨gx5, hgx5⟩ := b5.w.lst
    obtain ⟨gm5, hgm5, _⟩ := id b5.m
    have tll6 := (tll.but d5 hgx4 nla).three B6 hgx5 hgm5 b5.p nla nlm nlp
    obtain ⟨mv6, hmv6, tmv6⟩ := id b6.m
    have lmv6 := tmv6.rlen
    refine ⟨_, rfl, _, rfl, _, rfl, _, rfl, _, rfl, _, rfl, ml, _, rfl, .inl (SqL.of hmv6), a, _, (mv6.length : Int), rfl, b6.w, by omega, by have := b6.l1; omega, Nat.lt_of_le_of_lt (show _ ≤ 1000 by omega) (by decide +kernel), fun r7 H7 r70 r71 d7 e7 w7 => ⟨_, rfl, (by show 6 ≤ sizeLine; decide), fun p hp => ?_⟩⟩
    obtain ⟨out, rfl⟩ : ∃ m : Nat, r7 = m := ⟨r7.toNat, by omega⟩
    generalize hGp : upd _ p _ = G8
    obtain ⟨s8, h_p⟩ := upd_gen hGp hp
    have b8 := (b6.one d7 w7).new s8
    obtain ⟨gx6, hgx6⟩ := b6.w.lst
    have tll8 := (tll6.but d7 hgx6 nla).same s8
    have npp : p ≠ a := w7.ne hp
    have ALL : SameBut a H G8 := fun x o n e => by
      have n1 := ne_of_none e ml0
      have n2 := ne_of_none e pl00
      exact s8 _ _ (d7 _ _ n (B6 _ _ n n1 n2 (d5 _ _ n (B4 _ _ n n1 n2 (B3a _ _ n n1 n2 (d2 _ _ n (s1 _ _ (BB _ _ n e))))))))
    have lhs : hs.length = ks.length := by
      have := congrArg List.length hke
      rw [List.length_map] at this
      exact this
    have hpe : hpts ⟨fs, en, rows ++ ex3 ++ ex4 ++ ex6, hs, out⟩ = ks.map (fpt fs) := by
      unfold hpts
      rw [← hke, List.map_map]
      rfl
    have pe : NetP.pts ⟨fs, en, rows ++ ex3 ++ ex4 ++ ex6, hs, out⟩ = ptsK fs en ks (rows ++ ex3 ++ ex4 ++ ex6) := by
      unfold NetP.pts
      rw [hpe]
      rfl
    have p0 : H p = none := by
      cases e : H p with
      | none => rfl
      | some o =>
        have n1 := ne_of_none e ml0
        have n2 := ne_of_none e pl00
        have := d7 _ _ npp (B6 _ _ npp n1 n2 (d5 _ _ npp (B4 _ _ npp n1 n2 (B3a _ _ npp n1 n2 (d2 _ _ npp (s1 _ _ (BB _ _ npp e)))))))
        rw [hp] at this
        cases this
    refine q ⟨fs, en, rows ++ ex3 ++ ex4 ++ ex6, hs, out⟩ p G8 ⟨fc.f1, fc.f2, fc.fo, fc.en, by show hs.length ≤ 6; omega, fun h hh => ?_, b8.l1, by show (rows ++ ex3 ++ ex4 ++ ex6).length ≤ 60; omega, ?_, ?_, by show out < (rows ++ ex3 ++ ex4 ++ ex6).length; omega⟩ rfl (fun h hh => (hho h hh).2.2.1) (by show (rows ++ ex3 ++ ex4 ++ ex6).length ≤ 40; omega) ALL p0 npp ⟨fl, ml, ll, pl, h_p, b8.f, b8.m, tll8, by rw [pe]; exact b8.p⟩
    · obtain ⟨h1, h2, _, x, hx⟩ := (hho h hh).more (t := ex6)
      exact ⟨h1, fun f ef => by rw [← frm_at ef]; exact h2, x, hx⟩
    · intro i r e
      show RowOk hs.length fs.length i r
      rw [lhs]
      exact b8.ok i r e
    · intro p hp
      rw [pe] at hp
      have := b8.pb p hp
      omega
theorem sc__law_net : FnScope ["_law_well_here", "_law_widths", "_law_most", "_law_forms", "_law_enters", "_law_held", "_law_k"] ["_law_well_here", "_law_widths", "_law_most"] (defScope s__law_net) := ⟨rfl, rfl, rfl, by decide +kernel, rfl, by decide +kernel, by decide +kernel⟩
theorem ok__law_net {f : Addr} {fd : FuncData} (F : Fun K "_law_net" "_law_net" s__law_net f fd) (z : Zs mg) (c__law_draw : Cal P w K mg base 1 "_law_draw" ["_law_well_here", "_law_many"] spDraw) (c__law_form : Cal P w K mg base 2 "_law_form" ["_law_well_here", "_law_widths"] sp2Form) (c__law_built_of : Cal P w K mg base 5 "_law_built_of" ["_law_well_here", "_law_forms", "_law_enters", "_law_held", "_law_most"] sp2Built) : FnOk P w K mg base CX0 6 f fd ["_law_well_here", "_law_widths", "_law_most"] sp2Net := by
  refine F.ok sc__law_net (fun vs H Q E h => ?_) (fun cdv A outer s H vs Q E hr h => ?_)
  · obtain ⟨a, wl, ws, most, rfl, _⟩ := h
    rfl
  · obtain ⟨a, wl, ws, most, rfl, hw, hwl, l1, l2, wok, nwa, m1, m20, q⟩ := h
    refine ⟨_, (pss_cons (ps_set (i := 3) sc__law_net.nd rfl (.inr rfl) (pe_lc (own := [("_law_k", 6)]) (g := gName 6) (tt := tYes) (te := (tCall sp2Form [] E0 (tCons (tVar 0) (tCons (tVar 1) tNil)))) (by rfl) sc__law_net.nd (pi_range1 (by rfl) z.range (pa_cons (pe_op op_add pe_int (pe_cal c__law_draw hr (pa_cons (pv 0) (pa_cons pe_int pa_nil)))) pa_nil)) (blkOk_by (own := [("_law_k", 6)]) (N := ["_law_well_here", "_law_widths", "_law_most", "_law_forms", "_law_enters", "_law_held", "_law_k"]) (sc := defScope s__law_net) (by decide +kernel)) (fun _ _ _ _ _ => by exact (pg_name (i := 6) sc__law_net.nd rfl (.inl rfl))) (fun _ _ _ _ _ => by exact pts_nil) (fun _ _ _ _ _ => by exact (pe_cal c__law_form hr (pa_cons (pv 0) (pa_cons (pv 1) pa_nil))))))
      (C8.pss_cut (ps_if (pt_cmpR op_eq (pe_cal c__law_draw hr (pa_cons (pv 0) (pa_cons pe_int pa_nil))) pe_int (nomark _)) (pss_one (ps_asg (pe_ix ix_list (pv 3) pe_int (fun _ _ => rfl)) (pg_sub (pv 3) (pe_un un_neg pe_int) set_list))) pss_nil)
      (pss_cons (ps_set (i := 4) sc__law_net.nd rfl (.inl rfl) (pe_cal c__law_draw hr (pa_cons (pv 0) (pa_cons (pe_callB call_len_seq (by rfl) z.len PySem.boot_len (pa_cons (pv 3) pa_nil)) pa_nil))))
      (pss_cons (ps_setLc (i := 5) (own := [("_law_k", 6)]) (g := gName 6) (tt := tYes) (te := (tCall spDraw [] E0 (tCons (tVar 0) (tCons (tCB (fun xs H Q => ∃ p ys, xs = [V.ref p] ∧ (SqL K H p ys ∨ SqT K H p ys) ∧ Q (.int ys.length) H) (tCons (tVar 3) tNil)) tNil)))) (by rfl) sc__law_net.nd rfl rfl (sw_true rfl rfl rfl (by decide +kernel)) (pi_range1 (by rfl) z.range (pa_cons (pe_cal c__law_draw hr (pa_cons (pv 0) (pa_cons pe_int pa_nil))) pa_nil)) (blkOk_by (own := [("_law_k", 6)]) (N := ["_law_well_here", "_law_widths", "_law_most", "_law_forms", "_law_enters", "_law_held", "_law_k"]) (sc := defScope s__law_net) (by decide +kernel)) (fun _ _ _ _ _ => by exact (pg_name (i := 6) sc__law_net.nd rfl (.inl rfl))) (fun _ _ _ _ _ => by exact pts_nil) (fun _ _ _ _ _ => by exact (pe_cal c__law_draw hr (pa_cons (pv 0) (pa_cons (pe_callB call_len_seq (by rfl) z.len PySem.boot_len (pa_cons (pv 3) pa_nil)) pa_nil)))))
      (pss_one (ps_ret (pe_cal c__law_built_of hr (pa_cons (pv 0) (pa_cons (pv 3) (pa_cons (pv 4) (pa_cons (pv 5) (pa_cons (pv 2) pa_nil)))))))))))), ?_⟩
    obtain ⟨wxs, hwx⟩ := hw.lst
    refine ⟨_, rfl, a, 0, 3, rfl, hw, by omega, by decide, by decide +kernel, fun r1 H1 r10 r11 d1 e1 w1 => ⟨_, _, rfl, rfl, (1 + r1).toNat, by rw [Int.toNat_of_nonneg (by omega)], by omega, by omega, fun fl hfl => ?_⟩⟩
    have nfl : fl ≠ a := w1.ne hfl
    have ffl : H fl = none := same_free d1 hwx hfl nfl
    refine lc_it walk_range (fun i G => SameBut a H G ∧ WellAt G a (5 + 7 * i) ∧ ∃ (fv : List V) (fs : List FormP), G fl = some (.lst fv) ∧ TsAt G fv (fs.map FormP.vs) ∧ fs.length = i ∧ ∀ f ∈ fs, f.Ok ∧ f.w ∈ ws ∧ -4 ≤ f.pt ∧ f.pt ≤ 5) ⟨d1.trans (.of (same_new hfl)), (w1.same (same_new hfl)).mono (by omega), [], [], upd_same, .nil, rfl, fun n x => nomatch x⟩ (fun _ _ _ _ => trivial) (fun i x G2 G' hi hP hY => ?_) (fun G2 hP => ?_)
    · obtain ⟨sb, wl2, fv, fs, hf, tf, lf, hfo⟩ := hP
      obtain ⟨rfl, rfl⟩ := hY
      obtain ⟨gx, hgx⟩ := wl2.lst
      have ltf := tf.len
      rw [List.length_map] at ltf
      refine ⟨rfl, _, rfl, _, rfl, a, wl, ws, 5 + 7 * i, rfl, sb _ _ nwa hwl, l1, l2, wok, wl2, nwa, by omega, by omega, fun f p G3 fok fw p0 p1 s2 w2 np hpn hp2 => ?_⟩
      have hf2 := s2 _ _ nfl hf
      refine ⟨_, hf2, sl_lt (by omega), fun b o n e => ?_, (w2.but SameBut.upd nfl.symm).mono (by omega), fv ++ [.ref p], fs ++ [f], upd_same, ?_, by rw [List.length_append, lf]; rfl, fun x hx => ?_⟩
      · rw [upd_ne (ne_of_none e ffl)]
        exact s2 _ _ n (sb _ _ n e)
      · rw [List.map_append]
        exact TsAt.push hf2 (tf.but s2 hgx) hp2
      · rcases List.mem_append.mp hx with hx | hx
        · exact hfo x hx
        · rw [List.mem_singleton.mp hx]
          exact ⟨fok, fw, p0, p1⟩
    obtain ⟨sb, wl2, fv, fs, hf, tf, lf, hfo⟩ := hP
    have lfv := tf.len
    rw [List.length_map] at lfv
    have f1 : 1 ≤ fs.length := by omega
    have f3 : fs.length ≤ 3 := by omega
    clear lf
    refine ⟨fun σ G => σ = [some (.ref a), some (.ref wl), some (.int (most : Nat)), some (.ref fl), none, none, none] ∧ SameBut a H G ∧ WellAt G a 50 ∧ ∃ (fv : List V) (fs : List FormP), G fl = some (.lst fv) ∧ TsAt G fv (fs.map FormP.vs) ∧ 1 ≤ fs.length ∧ fs.length ≤ 3 ∧ ∀ f ∈ fs, f.Ok ∧ f.w ∈ ws ∧ -4 ≤ f.pt ∧ f.pt ≤ 5, ?_, fun σ G hM => ?_⟩
    · obtain ⟨gx, hgx⟩ := wl2.lst
      refine ⟨_, rfl, a, 5 + 7 * ((1 + r1).toNat : Nat), 4, rfl, wl2, by omega, by decide, by decide +kernel, fun r2 H2 r20 r21 d2 e2 w2 => ⟨rfl, _, rfl, ite2 (fun _ => ?_) (fun _ => ?_)⟩⟩
      · have hf2 := d2 _ _ nfl hf
        have tf2 := tf.but d2 hgx
        have e0 := List.getElem?_eq_getElem (show 0 < fs.length by omega)
        obtain ⟨p, ep, hp⟩ := tf2.at (i := 0) (xs := (fs[0]).vs) (by rw [List.getElem?_map, e0]; rfl)
        refine ⟨_, rfl, fl, _, 0, .ref p, rfl, rfl, SqL.of hf2, atI_nat (j := 0) ep, _, rfl, _, rfl, fl, _, _, fv.length - 1, rfl, rfl, hf2, ixN_last (by omega), rfl, fun b o n e => ?_, (w2.but SameBut.upd nfl.symm).mono (by omega), _, fs.set (fv.length - 1) fs[0], upd_same, ?_, by rw [List.length_set]; exact f1, by rw [List.length_set]; exact f3, fun x hx => ?_⟩
        · rw [upd_ne (ne_of_none e ffl)]
          exact d2 _ _ n (sb _ _ n e)
        · rw [List.map_set]
          exact (tf2.set hp _).but SameBut.upd hf2
        · rcases List.mem_or_eq_of_mem_set hx with hx | hx
          · exact hfo x hx
          · rw [hx]
            exact hfo _ (List.getElem_mem _)
      · exact ⟨rfl, sb.trans d2, w2.mono (by omega), fv, fs, d2 _ _ nfl hf, tf.but d2 hgx, f1, f3, hfo⟩
    clear hf tf hfo lfv f1 f3 sb wl2
    obtain ⟨rfl, sb, wl2, fv, fs, hf, tf, f1, f3, hfo⟩ := hM
    have lfv := tf.len
    rw [List.length_map] at lfv
    refine ⟨_, rfl, _, rfl, fl, _, rfl, .inl (SqL.of hf), a, _, (fv.length : Int), rfl, wl2, by omega, by omega, Nat.lt_of_le_of_lt (show _ ≤ 1000 by omega) (by decide +kernel), fun r2 H2 r20 r21 d2 e2 w2 => ?_⟩
    obtain ⟨en, rfl⟩ : ∃ m : Nat, r2 = m := ⟨r2.toNat, by omega⟩
    obtain ⟨gx2, hgx2⟩ := wl2.lst
    have hf2 := d2 _ _ nfl hf
    have tf2 := tf.but d2 hgx2
    refine ⟨_, rfl, a, 50 + 1, 4, rfl, w2, by omega, by decide, by decide +kernel, fun r3 H3 r30 r31 d3 e3 w3 => ⟨r3.toNat, by rw [Int.toNat_of_nonneg r30], by omega, by omega, fun kl hkl => ?_⟩⟩
    have D3 : SameBut a H H3 := sb.trans (d2.trans d3)
    have nkl : kl ≠ a := w3.ne hkl
    have fkl : H kl = none := same_free D3 hwx hkl nkl
    obtain ⟨gx3, hgx3⟩ := w2.lst
    have hf3 := d3 _ _ nfl hf2
    have nfk : fl ≠ kl := ne_of_none hf3 hkl
    refine lc_it walk_range (fun i G => SameBut a H G ∧ WellAt G a (60 + 2 * i) ∧ TL7 G fl (fs.map FormP.vs) ∧ ∃ ks : List Nat, G kl = some (.lst (ks.map nI)) ∧ ks.length = i ∧ ∀ k ∈ ks, k < fs.length) ⟨D3.trans (.of (same_new hkl)), (w3.same (same_new hkl)).mono (by omega), ⟨fv, same_new hkl _ _ hf3, (tf2.but d3 hgx3).same (same_new hkl)⟩, [], upd_same, rfl, fun n x => nomatch x⟩ (fun _ _ _ _ => trivial) (fun i x G G' hi hP hY => ?_) (fun G hP => ?_)
    · obtain ⟨sb4, wl4, tl4, ks, hk, lk, hks⟩ := hP
      obtain ⟨rfl, rfl⟩ := hY
      obtain ⟨fv4, hfv4, tfv4⟩ := id tl4
      have lf4 := tfv4.len
      rw [List.length_map] at lf4
      obtain ⟨gx4, hgx4⟩ := wl4.lst
      refine ⟨rfl, _, rfl, _, rfl, fl, _, rfl, .inl (SqL.of hfv4), a, 60 + 2 * i, (fv4.length : Int), rfl, wl4, by omega, by omega, Nat.lt_of_le_of_lt (show _ ≤ 1000 by omega) (by decide +kernel), fun r5 H5 r50 r51 d5 e5 w5 => ⟨_, d5 _ _ nkl hk, sl_lt (by rw [List.length_map]; omega), fun b o n e => ?_, (w5.but SameBut.upd nkl.symm).mono (by omega), (tl4.but d5 hgx4 nfl).but SameBut.upd (d5 _ _ nkl hk) nfk, ks ++ [r5.toNat], ?_, by rw [List.length_append, lk]; rfl, fun k hk2 => ?_⟩⟩
      · rw [upd_ne (ne_of_none e fkl)]
        exact d5 _ _ n (sb4 _ _ n e)
      · rw [upd_same, List.map_append]
        show some (HO.lst (ks.map nI ++ [V.int r5])) = some (.lst (ks.map nI ++ [V.int ((r5.toNat : Nat) : Int)]))
        rw [Int.toNat_of_nonneg r50]
      · rcases List.mem_append.mp hk2 with hk2 | hk2
        · exact hks k hk2
        · rw [List.mem_singleton.mp hk2]
          omega
    obtain ⟨sb4, wl4, tl4, ks, hk, lk, hks⟩ := hP
    refine ⟨_, rfl, _, rfl, _, rfl, _, rfl, _, rfl, a, fl, kl, fs, en, ks, most, _, rfl, tl4, hk, ⟨by omega, by omega, by omega, by omega, hks, fun f hf => (hfo f hf).1, fun f hf => (hfo f hf).2.2⟩, wl4, nfl, nkl, m1, m20, by omega, by omega, fun n p G' nok hfs hst h40 sb6 p0 np hpp => ?_⟩
    exact q n p G' nok (fun f hf => (hfo f (by rw [← hfs]; exact hf)).2.1) (by rw [hfs]; exact f3) hst h40 (sb4.trans sb6) (same_free sb4 hwx p0 np) np hpp
end
end E1

namespace E1
open PySem PySem.Spec PyProof.Rows L2

def spAgain : Sp := fun vs H Q _ => ∃ (ra pl : Addr) (r : Row) (ps : List Nat) (fc hc : Nat), vs = [.ref ra, .ref pl] ∧ H ra = some (.tup r.vs) ∧ H pl = some (.lst (ps.map nI)) ∧ RowOk hc fc ps.length r ∧
  ∀ p H', Same H H' → H' p = some (.tup (renR ps r).vs) → Q (.ref p) H'
theorem veq2 {i j : Int} (h : V.int i = V.int j) : i = j := V.int.inj h
theorem cut_last3 {a b c : V} : cutV [a, b, c] none (some (-1)) = [a, b] := rfl
theorem cut_last4 {a b c d : V} : cutV [a, b, c, d] none (some (-1)) = [a, b, c] := rfl
theorem ix_last3 {a b c : V} : atI [a, b, c] (-1) = some c := rfl
theorem ix_last4 {a b c d : V} : atI [a, b, c, d] (-1) = some d := rfl
section
variable {P : Program} {w : World} {K : PySem.W.Frag} {mg : Str → Option Value} {base : Heap}
theorem sc__law_spelled : FnScope ["_law_number", "_law_digits"] ["_law_number"] (defScope s__law_spelled) := ⟨rfl, rfl, rfl, by decide +kernel, rfl, by decide +kernel, by decide +kernel⟩
theorem ok__law_spelled {f : Addr} {fd : FuncData} {k : Nat} (F : Fun K "_law_spelled" "_law_spelled" s__law_spelled f fd) : FnOk P w K mg base CX0 (k + 1) f fd ["_law_number"] spSpelled := by
  refine F.ok sc__law_spelled (fun vs H Q E h => ?_) (fun cdv A outer s H vs Q E hr h => ?_)
  · obtain ⟨n, rfl, _⟩ := h
    rfl
  · obtain ⟨n, rfl, hn, q⟩ := h
    refine ⟨_, (pss_cons (ps_set (i := 1) sc__law_spelled.nd rfl (.inl rfl) (pe_lst pa_nil))
      (pss_cons (ps_while PassesOwn.never (pt_cmpR op_ne (pv 0) pe_int (nomark _)) (pss_cons (ps_expr (pe_bm PySem.F.plainAttrs_list PySem.F.slot_list_append PySem.F.type_list_append mt_append (pv 1) (pa_cons pe_int pa_nil)))
      (pss_cons (ps_if (pt_cmpR op_eq (pe_op op_mod (pv 0) pe_int) pe_int (nomark _)) (pss_one (ps_asg (pe_op op_sub pe_int (pe_op op_mod (pv 0) pe_int)) (pg_sub (pv 1) (pe_un un_neg pe_int) set_list))) pss_nil)
      (pss_one (ps_set (i := 0) sc__law_spelled.nd rfl (.inl rfl) (pe_op op_fdiv (pe_op op_sub (pv 0) (pe_ix ix_list (pv 1) (pe_un un_neg pe_int) (fun _ _ => rfl))) pe_int))))))
      (pss_one (ps_ret (pv 1))))), ?_⟩
    have hlen := naf_len 200 n hn
    refine ⟨(by show 0 ≤ sizeLine; decide), fun l hl => ?_⟩
    dsimp only [gName, tSeq]
    refine while_by (fun σ H' => ∃ (m : Int) (acc : List Int), σ = [some (.int m), some (.ref l)] ∧ Same H H' ∧ H' l = some (.lst (acc.map V.int)) ∧ acc ++ naf m = naf n)
      (fun σ _ => match σ with | [some (.int m), _] => m.natAbs | _ => 0) ⟨n, [], rfl, same_new hl, upd_same, rfl⟩ (fun σ H1 hP => ?_) (fun σ H Q Q' m hh => ?_)
    · obtain ⟨m, acc, rfl, s1, hacc, hh⟩ := hP
      refine ⟨_, rfl, rfl, _, rfl, iteN (fun c => ?_) (fun c => ?_)⟩
      · have hm : m ≠ 0 := vne c
        have hhalf := dg_half hm
        rw [naf_ne hm] at hh
        have hl2 : acc.length < 1000 := by
          have := congrArg List.length hh
          rw [List.length_append, List.length_cons] at this
          omega
        refine ⟨_, rfl, .inl ⟨rfl, _, SqL.of hacc⟩, l, _, _, rfl, rfl, hacc, sl_lt (by rw [List.length_map]; omega), ?_⟩
        generalize hG2 : upd _ l _ = G2
        have h_l : G2 l = some (.lst (acc.map V.int ++ [.int 0])) := by rw [← hG2]; exact upd_same
        have s2 : Same H G2 := fun b o e => by
          rw [← hG2, upd_ne (ne_of_none e hl)]
          exact s1 _ _ e
        have la : (acc.map V.int ++ [V.int 0]).length = acc.length + 1 := by rw [List.length_append, List.length_map]; rfl
        have lastI : ∀ d : Int, atI (acc.map V.int ++ [V.int d]) (-1) = some (.int d) := fun d => by
          unfold atI
          rw [List.length_append, List.length_map, List.length_singleton, ixN_last (by omega)]
          show (acc.map V.int ++ [V.int d])[acc.length + 1 - 1]? = _
          rw [Nat.add_sub_cancel, List.getElem?_append_right (by rw [List.length_map]; exact Nat.le_refl _), List.length_map, Nat.sub_self]
          rfl
        by_cases c2 : m % 2 = 0
        · have d0 : dg m = 0 := by
            unfold dg
            rw [if_pos c2]
          refine ⟨_, rfl, _, _, rfl, rfl, (by show (0 : Int) < 2; decide), rfl, _, rfl, iteC (d := false) (decide_eq_false (fun z => by have := veq2 z; omega)) (iteF ?_)⟩
          refine ⟨_, rfl, _, rfl, _, rfl, l, _, -1, .int 0, rfl, rfl, SqL.of h_l, lastI 0, _, _, rfl, rfl, _, _, rfl, rfl, ⟨by decide, by decide⟩, ⟨_, acc ++ [0], rfl, s2, ?_, ?_⟩, ?_⟩
          · rw [h_l, List.map_append]
            rfl
          · rw [List.append_assoc, ← hh, d0]
            rfl
          · show ((m - 0) / 2).natAbs < m.natAbs
            rw [← d0]
            exact hhalf
        · have d0 : dg m = 2 - m % 4 := by
            unfold dg
            rw [if_neg c2]
          refine ⟨_, rfl, _, _, rfl, rfl, (by show (0 : Int) < 2; decide), rfl, _, rfl, iteC (d := true) (decide_eq_true (congrArg V.int (show m % 2 = 1 by omega))) (iteT ?_)⟩
          refine ⟨_, rfl, _, _, rfl, rfl, (by show (0 : Int) < 4; decide), _, _, rfl, rfl, _, rfl, _, rfl, l, _, _, acc.length, rfl, rfl, h_l, (by rw [la, ixN_last (by omega)]; rfl), ?_⟩
          have st : (acc.map V.int ++ [V.int 0]).set acc.length (V.int (2 - m % 4)) = acc.map V.int ++ [V.int (2 - m % 4)] := by
            rw [List.set_append]
            simp
          dsimp only
          rw [st]
          generalize hG3 : upd G2 l _ = G3
          have h_l3 : G3 l = some (.lst (acc.map V.int ++ [V.int (2 - m % 4)])) := by rw [← hG3]; exact upd_same
          have s3 : Same H G3 := fun b o e => by
            rw [← hG3, upd_ne (ne_of_none e hl)]
            exact s2 _ _ e
          refine ⟨_, rfl, _, rfl, _, rfl, l, _, -1, .int (2 - m % 4), rfl, rfl, SqL.of h_l3, lastI (2 - m % 4), _, _, rfl, rfl, _, _, rfl, rfl, ⟨by decide, by decide⟩, ⟨_, acc ++ [2 - m % 4], rfl, s3, ?_, ?_⟩, ?_⟩
          · rw [h_l3, List.map_append]
            rfl
          · rw [List.append_assoc, ← hh, d0]
            rfl
          · show ((m - (2 - m % 4)) / 2).natAbs < m.natAbs
            rw [← d0]
            exact hhalf
      · have hm : m = 0 := veq c
        subst hm
        rw [naf_zero, List.append_nil] at hh
        rw [hh] at hacc
        exact ⟨_, rfl, q l H1 hl s1 hacc⟩
    · obtain ⟨v, e, sc, kk, ek, hq⟩ := hh
      exact ⟨v, e, sc, kk, ek, m _ _ hq⟩
theorem sc__law_again : FnScope ["_law_row", "_law_places"] ["_law_row", "_law_places"] (defScope s__law_again) := ⟨rfl, rfl, rfl, by decide +kernel, rfl, by decide +kernel, by decide +kernel⟩
theorem ok__law_again {f : Addr} {fd : FuncData} {k : Nat} (F : Fun K "_law_again" "_law_again" s__law_again f fd) : FnOk P w K mg base CX0 (k + 1) f fd ["_law_row", "_law_places"] spAgain := by
  refine F.ok sc__law_again (fun vs H Q E h => ?_) (fun cdv A outer s H vs Q E hr h => ?_)
  · obtain ⟨ra, pl, r, ps, fc, hc, rfl, _⟩ := h
    rfl
  · obtain ⟨ra, pl, r, ps, fc, hc, rfl, hra, hpl, ok, q⟩ := h
    refine ⟨_, (pss_cons (ps_if (PW.pt (pw_or (pt_cmpR op_eq (pe_ix ix_tup (pv 0) pe_int (fun _ _ => rfl)) pe_str (nomark _)) (pw_or1 (pt_cmpR op_eq (pe_ix ix_tup (pv 0) pe_int (fun _ _ => rfl)) pe_str (nomark _))))) (pss_one (ps_ret (pe_tup (pa_cons (pe_ix ix_tup (pv 0) pe_int (fun _ _ => rfl)) (pa_cons (pe_ix ix_list (pv 1) (pe_ix ix_tup (pv 0) pe_int (fun _ _ => rfl)) (fun _ _ => rfl)) (pa_cons (pe_ix ix_list (pv 1) (pe_ix ix_tup (pv 0) pe_int (fun _ _ => rfl)) (fun _ _ => rfl)) pa_nil)))))) pss_nil)
      (pss_cons (ps_if (PW.pt (pw_or (pt_cmpR op_eq (pe_ix ix_tup (pv 0) pe_int (fun _ _ => rfl)) pe_str (nomark _)) (pw_or1 (pt_cmpR op_eq (pe_ix ix_tup (pv 0) pe_int (fun _ _ => rfl)) pe_str (nomark _))))) (pss_one (ps_ret (pv 0))) pss_nil)
      (pss_one (ps_ret (pe_op op_catT (pe_slice sl_tupA (pv 0) po_none (po_some (pe_un un_neg pe_int))) (pe_tup (pa_cons (pe_ix ix_list (pv 1) (pe_ix ix_tup (pv 0) (pe_un un_neg pe_int) (fun _ _ => rfl)) (fun _ _ => rfl)) pa_nil))))))), ?_⟩
    have qn : ∀ t, H t = none → ∀ G, G = upd H t (.tup (renR ps r).vs) → Q (.ref t) G := fun t ht G e => by
      subst e
      exact q t _ (same_new ht) upd_same
    match r, ok with
    | .inn, ok => exact ⟨_, rfl, ra, _, 0, .str _, rfl, rfl, SqT.of hra, a0, rfl, _, rfl, iteC (d := false) (decide_eq_false (fun z => kd_ne .inn .plus (fun z => nomatch z) (V.str.inj z))) (iteF ⟨_, rfl, ra, _, 0, .str _, rfl, rfl, SqT.of hra, a0, rfl, _, rfl, iteC (d := false) (decide_eq_false (fun z => kd_ne .inn .less (fun z => nomatch z) (V.str.inj z))) (iteF ⟨_, rfl, ra, _, 0, .str _, rfl, rfl, SqT.of hra, a0, rfl, _, rfl, iteC (d := true) (decide_eq_true rfl) (iteT (iteT ⟨_, rfl, q ra H (.refl _) hra⟩))⟩)⟩)⟩
    | .old k, ok => exact ⟨_, rfl, ra, _, 0, .str _, rfl, rfl, SqT.of hra, a0, rfl, _, rfl, iteC (d := false) (decide_eq_false (fun z => kd_ne .old .plus (fun z => nomatch z) (V.str.inj z))) (iteF ⟨_, rfl, ra, _, 0, .str _, rfl, rfl, SqT.of hra, a0, rfl, _, rfl, iteC (d := false) (decide_eq_false (fun z => kd_ne .old .less (fun z => nomatch z) (V.str.inj z))) (iteF ⟨_, rfl, ra, _, 0, .str _, rfl, rfl, SqT.of hra, a0, rfl, _, rfl, iteC (d := false) (decide_eq_false (fun z => kd_ne .old .inn (fun z => nomatch z) (V.str.inj z))) (iteF ⟨_, rfl, ra, _, 0, .str _, rfl, rfl, SqT.of hra, a0, rfl, _, rfl, iteC (d := true) (decide_eq_true rfl) (iteT ⟨_, rfl, q ra H (.refl _) hra⟩)⟩)⟩)⟩)⟩
    | .plus a b, ok => exact ⟨_, rfl, ra, _, 0, .str _, rfl, rfl, SqT.of hra, a0, rfl, _, rfl, iteC (d := true) (decide_eq_true rfl) (iteT (iteT ⟨_, rfl, ra, _, 0, .str _, rfl, rfl, SqT.of hra, a0, _, rfl, _, rfl, ra, _, 1, .int (a : Nat), rfl, rfl, SqT.of hra, a1, pl, _, _, _, rfl, rfl, SqL.of hpl, nat_at ok.1, _, rfl, _, rfl, ra, _, 2, .int (b : Nat), rfl, rfl, SqT.of hra, a2, pl, _, _, _, rfl, rfl, SqL.of hpl, nat_at ok.2, (by show 3 ≤ sizeLine; decide), fun t ht => qn t ht _ rfl⟩))⟩
    | .less a b, ok => exact ⟨_, rfl, ra, _, 0, .str _, rfl, rfl, SqT.of hra, a0, rfl, _, rfl, iteC (d := false) (decide_eq_false (fun z => kd_ne .less .plus (fun z => nomatch z) (V.str.inj z))) (iteF ⟨_, rfl, ra, _, 0, .str _, rfl, rfl, SqT.of hra, a0, rfl, _, rfl, iteC (d := true) (decide_eq_true rfl) (iteT ⟨_, rfl, ra, _, 0, .str _, rfl, rfl, SqT.of hra, a0, _, rfl, _, rfl, ra, _, 1, .int (a : Nat), rfl, rfl, SqT.of hra, a1, pl, _, _, _, rfl, rfl, SqL.of hpl, nat_at ok.1, _, rfl, _, rfl, ra, _, 2, .int (b : Nat), rfl, rfl, SqT.of hra, a2, pl, _, _, _, rfl, rfl, SqL.of hpl, nat_at ok.2, (by show 3 ≤ sizeLine; decide), fun t ht => qn t ht _ rfl⟩)⟩)⟩
    | .times f m a, ok =>
      refine ⟨_, rfl, ra, _, 0, .str _, rfl, rfl, SqT.of hra, a0, rfl, _, rfl, iteC (d := false) (decide_eq_false (fun z => kd_ne .times .plus (fun z => nomatch z) (V.str.inj z))) (iteF ⟨_, rfl, ra, _, 0, .str _, rfl, rfl, SqT.of hra, a0, rfl, _, rfl, iteC (d := false) (decide_eq_false (fun z => kd_ne .times .less (fun z => nomatch z) (V.str.inj z))) (iteF ⟨_, rfl, ra, _, 0, .str _, rfl, rfl, SqT.of hra, a0, rfl, _, rfl, iteC (d := false) (decide_eq_false (fun z => kd_ne .times .inn (fun z => nomatch z) (V.str.inj z))) (iteF ⟨_, rfl, ra, _, 0, .str _, rfl, rfl, SqT.of hra, a0, rfl, _, rfl, iteC (d := false) (decide_eq_false (fun z => kd_ne .times .old (fun z => nomatch z) (V.str.inj z))) (iteF ?_)⟩)⟩)⟩)⟩
      refine ⟨_, rfl, _, rfl, _, rfl, ra, _, rfl, SqT.of hra, fun z => absurd z.2 (show ¬ (3 : Nat) = 4 by decide), fun _ c1 hc1 => ?_⟩
      generalize hG1 : upd _ c1 _ = G1
      obtain ⟨s1, h_c1⟩ := upd_gen hG1 hc1
      refine ⟨_, rfl, _, rfl, _, rfl, ra, _, -1, .int (a : Nat), rfl, rfl, SqT.of (s1 _ _ hra), ix_last4, pl, _, _, _, rfl, rfl, SqL.of (s1 _ _ hpl), nat_at ok.2.2, (by show 1 ≤ sizeLine; decide), fun t1 ht1 => ?_⟩
      generalize hG2 : upd _ t1 _ = G2
      obtain ⟨s2, h_t1⟩ := upd_gen hG2 ht1
      refine ⟨_, _, _, _, rfl, rfl, SqT.of (s2 _ _ h_c1), SqT.of h_t1, (fun z => nomatch z), (by show 3 + 1 ≤ sizeLine; decide), (fun z => nomatch z), fun _ p hp2 => ?_⟩
      exact q p _ ((s1.trans s2).trans (same_new hp2)) upd_same
    | .move m a, ok =>
      refine ⟨_, rfl, ra, _, 0, .str _, rfl, rfl, SqT.of hra, a0, rfl, _, rfl, iteC (d := false) (decide_eq_false (fun z => kd_ne .move .plus (fun z => nomatch z) (V.str.inj z))) (iteF ⟨_, rfl, ra, _, 0, .str _, rfl, rfl, SqT.of hra, a0, rfl, _, rfl, iteC (d := false) (decide_eq_false (fun z => kd_ne .move .less (fun z => nomatch z) (V.str.inj z))) (iteF ⟨_, rfl, ra, _, 0, .str _, rfl, rfl, SqT.of hra, a0, rfl, _, rfl, iteC (d := false) (decide_eq_false (fun z => kd_ne .move .inn (fun z => nomatch z) (V.str.inj z))) (iteF ⟨_, rfl, ra, _, 0, .str _, rfl, rfl, SqT.of hra, a0, rfl, _, rfl, iteC (d := false) (decide_eq_false (fun z => kd_ne .move .old (fun z => nomatch z) (V.str.inj z))) (iteF (?_))⟩)⟩)⟩)⟩
      refine ⟨_, rfl, _, rfl, _, rfl, ra, _, rfl, SqT.of hra, fun z => absurd z.2 (show ¬ (2 : Nat) = 3 by decide), fun _ c1 hc1 => ?_⟩
      generalize hG1 : upd _ c1 _ = G1
      obtain ⟨s1, h_c1⟩ := upd_gen hG1 hc1
      refine ⟨_, rfl, _, rfl, _, rfl, ra, _, -1, .int (a : Nat), rfl, rfl, SqT.of (s1 _ _ hra), ix_last3, pl, _, _, _, rfl, rfl, SqL.of (s1 _ _ hpl), nat_at ok.2, (by show 1 ≤ sizeLine; decide), fun t1 ht1 => ?_⟩
      generalize hG2 : upd _ t1 _ = G2
      obtain ⟨s2, h_t1⟩ := upd_gen hG2 ht1
      refine ⟨_, _, _, _, rfl, rfl, SqT.of (s2 _ _ h_c1), SqT.of h_t1, (fun z => nomatch z), (by show 2 + 1 ≤ sizeLine; decide), (fun z => nomatch z), fun _ p hp2 => ?_⟩
      exact q p _ ((s1.trans s2).trans (same_new hp2)) upd_same
    | .keep f a, ok =>
      refine ⟨_, rfl, ra, _, 0, .str _, rfl, rfl, SqT.of hra, a0, rfl, _, rfl, iteC (d := false) (decide_eq_false (fun z => kd_ne .keep .plus (fun z => nomatch z) (V.str.inj z))) (iteF ⟨_, rfl, ra, _, 0, .str _, rfl, rfl, SqT.of hra, a0, rfl, _, rfl, iteC (d := false) (decide_eq_false (fun z => kd_ne .keep .less (fun z => nomatch z) (V.str.inj z))) (iteF ⟨_, rfl, ra, _, 0, .str _, rfl, rfl, SqT.of hra, a0, rfl, _, rfl, iteC (d := false) (decide_eq_false (fun z => kd_ne .keep .inn (fun z => nomatch z) (V.str.inj z))) (iteF ⟨_, rfl, ra, _, 0, .str _, rfl, rfl, SqT.of hra, a0, rfl, _, rfl, iteC (d := false) (decide_eq_false (fun z => kd_ne .keep .old (fun z => nomatch z) (V.str.inj z))) (iteF (?_))⟩)⟩)⟩)⟩
      refine ⟨_, rfl, _, rfl, _, rfl, ra, _, rfl, SqT.of hra, fun z => absurd z.2 (show ¬ (2 : Nat) = 3 by decide), fun _ c1 hc1 => ?_⟩
      generalize hG1 : upd _ c1 _ = G1
      obtain ⟨s1, h_c1⟩ := upd_gen hG1 hc1
      refine ⟨_, rfl, _, rfl, _, rfl, ra, _, -1, .int (a : Nat), rfl, rfl, SqT.of (s1 _ _ hra), ix_last3, pl, _, _, _, rfl, rfl, SqL.of (s1 _ _ hpl), nat_at ok.2, (by show 1 ≤ sizeLine; decide), fun t1 ht1 => ?_⟩
      generalize hG2 : upd _ t1 _ = G2
      obtain ⟨s2, h_t1⟩ := upd_gen hG2 ht1
      refine ⟨_, _, _, _, rfl, rfl, SqT.of (s2 _ _ h_c1), SqT.of h_t1, (fun z => nomatch z), (by show 2 + 1 ≤ sizeLine; decide), (fun z => nomatch z), fun _ p hp2 => ?_⟩
      exact q p _ ((s1.trans s2).trans (same_new hp2)) upd_same
end
end E1

namespace E1
open PySem PySem.Spec PyProof.Rows L2

def sp38Due : Sp := fun vs H Q _ => ∃ (rl : Addr) (n : NetP) (rv : List V), vs = [.ref rl] ∧ H rl = some (.lst rv) ∧ TsAt H rv (n.rows.map Row.vs) ∧ NetOk n ∧
  ∀ t fl pl H', Same H H' → H' t = some (.tup [.ref fl, .ref pl]) → (∃ ov, H' fl = some (.lst ov) ∧ TsAt H' ov ((spread n.rows).1.map Row.vs)) → H' pl = some (.lst ((spread n.rows).2.map nI)) → Q (.ref t) H'
structure WD (H G : Hp) (rows : List Row) (ro pl rl : Addr) (rv : List V) (out : List Row) (ps : List Nat) : Prop where
  sm : Same H G
  r : G rl = some (.lst rv)
  t : TsAt G rv (rows.map Row.vs)
  o : ∃ ov, G ro = some (.lst ov) ∧ TsAt G ov (out.map Row.vs)
  p : G pl = some (.lst (ps.map nI))
section
variable {H G G' : Hp} {rows : List Row} {ro pl rl : Addr} {rv : List V} {out out' : List Row} {ps : List Nat}
theorem WD.same (w : WD H G rows ro pl rl rv out ps) (s : Same G G') : WD H G' rows ro pl rl rv out ps := by
  obtain ⟨ov, h1, h2⟩ := w.o
  exact ⟨w.sm.trans s, s _ _ w.r, w.t.same s, ⟨ov, s _ _ h1, h2.same s⟩, s _ _ w.p⟩
structure WG (H : Hp) (ro pl rl : Addr) : Prop where
  h1 : H ro = none
  h2 : H pl = none
  r : rl ≠ ro
  p : pl ≠ ro
  r2 : rl ≠ pl
/-- one more row -/
theorem WD.push (w : WD H G rows ro pl rl rv out ps) (N : WG H ro pl rl) {ov : List V} {q : Addr} {r : Row} (h1 : G ro = some (.lst ov)) (h2 : TsAt G ov (out.map Row.vs)) (hq : G q = some (.tup r.vs)) : WD H (upd G ro (.lst (ov ++ [.ref q]))) rows ro pl rl rv (out ++ [r]) ps := by
  have s : SameBut ro G (upd G ro (.lst (ov ++ [.ref q]))) := SameBut.upd
  exact ⟨fun b x e => s _ _ (ne_of_none e N.h1) (w.sm _ _ e), s _ _ N.r w.r, w.t.but s h1, ⟨_, upd_same, by rw [List.map_append]; exact TsAt.push h1 h2 hq⟩, s _ _ N.p w.p⟩
theorem WD.place (w : WD H G rows ro pl rl rv out ps) (N : WG H ro pl rl) {p : Nat} : WD H (upd G pl (.lst (ps.map nI ++ [nI p]))) rows ro pl rl rv out (ps ++ [p]) := by
  obtain ⟨ov, h1, h2⟩ := w.o
  have s : SameBut pl G (upd G pl (.lst (ps.map nI ++ [nI p]))) := SameBut.upd
  exact ⟨fun b x e => s _ _ (ne_of_none e N.h2) (w.sm _ _ e), s _ _ N.r2 w.r, w.t.but s w.p, ⟨ov, s _ _ N.p.symm h1, h2.but s w.p⟩, by rw [upd_same, List.map_append]; rfl⟩
end
section
variable {P : Program} {w : World} {K : PySem.W.Frag} {mg : Str → Option Value} {base : Heap}
theorem sc__law_due : FnScope ["_law_rows", "_law_found", "_law_places", "_law_row", "_law_now", "_law_k", "_law_digit"] ["_law_rows"] (defScope s__law_due) := ⟨rfl, rfl, rfl, by decide +kernel, rfl, by decide +kernel, by decide +kernel⟩
theorem ok__law_due {f : Addr} {fd : FuncData} (F : Fun K "_law_due" "_law_due" s__law_due f fd) (z : Zs mg) (c__law_again : Cal P w K mg base 1 "_law_again" ["_law_row", "_law_places"] spAgain) (c__law_spelled : Cal P w K mg base 1 "_law_spelled" ["_law_number"] spSpelled) : FnOk P w K mg base CX0 2 f fd ["_law_rows"] sp38Due := by
  refine F.ok sc__law_due (fun vs H Q E h => ?_) (fun cdv A outer s H vs Q E hr h => ?_)
  · obtain ⟨rl, n, rv, rfl, _⟩ := h
    rfl
  · obtain ⟨rl, n, rv, rfl, hrl, tr, ok, q⟩ := h
    refine ⟨_, (pss_cons (ps_set (i := 1) sc__law_due.nd rfl (.inl rfl) (pe_lst pa_nil))
      (pss_cons (ps_set (i := 2) sc__law_due.nd rfl (.inl rfl) (pe_lst pa_nil))
      (pss_cons (ps_for PassesOwn.never rfl (pi_list (pv 0)) (pg_name (i := 3) sc__law_due.nd rfl (.inl rfl)) (pss_cons (ps_set (i := 4) sc__law_due.nd rfl (.inl rfl) (pe_cal c__law_again hr (pa_cons (pv 3) (pa_cons (pv 2) pa_nil))))
      (C8.pss_cut (ps_if (pt_cmpR op_ne (pe_ix ix_tup (pv 3) pe_int (fun _ _ => rfl)) pe_str (nomark _)) (pss_one (ps_expr (pe_bm PySem.F.plainAttrs_list PySem.F.slot_list_append PySem.F.type_list_append mt_append (pv 1) (pa_cons (pv 4) pa_nil)))) (pss_cons (ps_expr (pe_bm PySem.F.plainAttrs_list PySem.F.slot_list_append PySem.F.type_list_append mt_append (pv 1) (pa_cons (pe_tup (pa_cons pe_str (pa_cons (pe_ix ix_tup (pv 4) pe_int (fun _ _ => rfl)) (pa_cons (pe_ix ix_tup (pv 4) pe_int (fun _ _ => rfl)) pa_nil)))) pa_nil)))
      (pss_one (ps_for PassesOwn.never rfl (pi_enum (by rfl) z.enumerate (pa_cons (pe_cal c__law_spelled hr (pa_cons (pe_ix ix_tup (pv 3) pe_int (fun _ _ => rfl)) pa_nil)) pa_nil)) (pg_tup (by rfl) (pgs_cons (pg_name (i := 5) sc__law_due.nd rfl (.inl rfl)) (pgs_cons (pg_name (i := 6) sc__law_due.nd rfl (.inl rfl)) pgs_nil))) (pss_one (ps_if (pt_cmpR op_ne (pv 6) pe_int (nomark _)) (pss_cons (ps_expr (pe_bm PySem.F.plainAttrs_list PySem.F.slot_list_append PySem.F.type_list_append mt_append (pv 1) (pa_cons (pe_tup (pa_cons pe_str (pa_cons (pe_op op_sub (pv 5) (pe_ix ix_tup (pv 3) pe_int (fun _ _ => rfl))) (pa_cons (pe_ix ix_tup (pv 4) pe_int (fun _ _ => rfl)) pa_nil)))) pa_nil)))
      (pss_one (ps_expr (pe_bm PySem.F.plainAttrs_list PySem.F.slot_list_append PySem.F.type_list_append mt_append (pv 1) (pa_cons (pe_tup (pa_cons (pe_ix ix_list (pe_lst (pa_cons pe_str (pa_cons pe_str pa_nil))) (pe_callTy call_int1 (by rfl) z.int (by decide +kernel) (pa_cons (pe_cmpR op_eq (pv 6) (pe_un un_neg pe_int) (nomark _)) pa_nil)) (fun _ _ => rfl)) (pa_cons (pe_op op_sub (pe_callB call_len_seq (by rfl) z.len PySem.boot_len (pa_cons (pv 1) pa_nil)) pe_int) (pa_cons (pe_op op_sub (pe_callB call_len_seq (by rfl) z.len PySem.boot_len (pa_cons (pv 1) pa_nil)) pe_int) pa_nil)))) pa_nil))))) pss_nil))))))
      (pss_one (ps_expr (pe_bm PySem.F.plainAttrs_list PySem.F.slot_list_append PySem.F.type_list_append mt_append (pv 2) (pa_cons (pe_op op_sub (pe_callB call_len_seq (by rfl) z.len PySem.boot_len (pa_cons (pv 1) pa_nil)) pe_int) pa_nil)))))))
      (pss_one (ps_ret (pe_tup (pa_cons (pv 1) (pa_cons (pv 2) pa_nil)))))))), ?_⟩
    have r60 := ok.r2
    have lrv := tr.len
    rw [List.length_map] at lrv
    refine ⟨(by show 0 ≤ sizeLine; decide), fun ro hro0 => ?_⟩
    generalize hG1 : upd _ ro _ = G1
    obtain ⟨s1, h_ro⟩ := upd_gen hG1 hro0
    refine ⟨(by show 0 ≤ sizeLine; decide), fun pl hpl0 => ?_⟩
    generalize hG2 : upd _ pl _ = G2
    obtain ⟨s2, h_pl⟩ := upd_gen hG2 hpl0
    have S2 := s1.trans s2
    have N : WG H ro pl rl := ⟨hro0, s1.free hpl0, ne_of_none hrl hro0, (ne_of_none h_ro hpl0).symm, ne_of_none (s1 _ _ hrl) hpl0⟩
    have W0 : WD H G2 n.rows ro pl rl rv [] [] := ⟨S2, S2 _ _ hrl, tr.same S2, ⟨[], s2 _ _ h_ro, .nil⟩, h_pl⟩
    refine ⟨_, rfl, rl, rfl, ⟨_, SqL.of W0.r⟩, ?_⟩
    refine for_it (walk_list (K := K) (a := rl) (xs := rv)) (fun i σ G => ∃ (y3 y4 y5 y6 : Option V), σ = [some (.ref rl), some (.ref ro), some (.ref pl), y3, y4, y5, y6] ∧ WD H G n.rows ro pl rl rv (spread (n.rows.take i)).1 (spread (n.rows.take i)).2) ⟨none, none, none, none, rfl, W0⟩ (fun i σ G _ hP => by obtain ⟨y3, y4, y5, y6, rfl, W⟩ := hP; exact SqL.of W.r) (fun i v σ G G' hi hP hY => ?_) (fun σ G hP => ?_)
    · obtain ⟨y3, y4, y5, y6, rfl, W⟩ := hP
      obtain ⟨rfl, hx⟩ := hY
      obtain ⟨rp, xs, rfl, ex, hrp⟩ := W.t.get hx
      rw [List.getElem?_map] at ex
      obtain ⟨r, er, rfl⟩ := Option.map_eq_some_iff.mp ex
      have il := (List.getElem?_eq_some_iff.mp er).1
      have ro' := ok.ro i r er
      have nx := spread_next er
      have ls := spread_len (rows := n.rows) i (by omega)
      have lm := spread_many ok i (by omega)
      have lo := outT_len (out := (spread (n.rows.take i)).1) (pl := (spread (n.rows.take i)).2) ro'
      have po := outT_pos (spread (n.rows.take i)).1 (spread (n.rows.take i)).2 r
      generalize (spread (n.rows.take (i + 1))) = nxt at *
      subst nx
      generalize spread (n.rows.take i) = sp at *
      obtain ⟨out, ps⟩ := sp
      dsimp only at W ls lm lo po
      refine ⟨_, rfl, _, rfl, rp, pl, r, ps, n.fs.length, n.holds.length, rfl, hrp, W.p, by rw [ls]; exact ro', fun np G2 s2 h_np => ?_⟩
      replace W := W.same s2
      replace hrp := s2 _ _ hrp
      refine ⟨fun σ G => ∃ (y5 y6 : Option V), σ = [some (.ref rl), some (.ref ro), some (.ref pl), some (.ref rp), some (.ref np), y5, y6] ∧ WD H G n.rows ro pl rl rv (outT out ps r) ps, ?_, fun σ G hM => ?_⟩
      · obtain ⟨ov, ho, tro⟩ := W.o
        have lov := tro.len
        rw [List.length_map] at lov
        refine ⟨_, rfl, rp, _, 0, .str r.kd.s, rfl, rfl, SqT.of hrp, atI_nat (j := 0) r.vs0, rfl, _, rfl, iteN (fun c => ?_) (fun c => ?_)⟩
        · have kt : r.kd ≠ .times := fun e => c (by rw [e]; rfl)
          have ho2 : outT out ps r = out ++ [renR ps r] := by
            cases r with
            | times f m a => exact absurd rfl kt
            | _ => rfl
          rw [ho2]
          exact ⟨_, rfl, .inl ⟨rfl, _, SqL.of ho⟩, _, rfl, ro, _, _, rfl, rfl, ho, sl_lt (by omega), _, _, rfl, W.push N ho tro h_np⟩
        · have kt : r.kd = .times := Classical.byContradiction fun k => kd_ne _ .times k (V.str.inj c)
          obtain ⟨f, m, a, rfl⟩ : ∃ f m a, r = .times f m a := by
            cases r with
            | times f m a => exact ⟨f, m, a, rfl⟩
            | _ => cases kt
          have f63 : f.natAbs ≤ 2 ^ 63 := by have := ro'.1; omega
          have m64 := ro'.2.1
          have dl := naf_len 63 f f63
          refine ⟨_, rfl, .inl ⟨rfl, _, SqL.of ho⟩, _, rfl, np, _, 3, .int ((ps.getD a 0 : Nat) : Int), rfl, rfl, SqT.of h_np, atI_nat (j := 3) rfl, _, rfl, np, _, 3, .int ((ps.getD a 0 : Nat) : Int), rfl, rfl, SqT.of h_np, atI_nat (j := 3) rfl, (by show 3 ≤ sizeLine; decide), fun t ht => ?_⟩
          generalize hG3 : upd _ t _ = G3
          obtain ⟨s3, h_t⟩ := upd_gen hG3 ht
          have ho3 := s3 _ _ ho
          refine ⟨ro, _, _, rfl, rfl, ho3, sl_lt (by omega), ?_⟩
          have W4 := (W.same s3).push (r := .less (ps.getD a 0) (ps.getD a 0)) N ho3 (tro.same s3) h_t
          have b4 : SameBut ro G2 (upd G3 ro (.lst (ov ++ [.ref t]))) := fun b o nb e => by
            rw [upd_ne nb]
            exact s3 _ _ e
          have nrp : rp ≠ ro := ne_of hrp ho (fun z => nomatch z)
          have nnp : np ≠ ro := ne_of h_np ho (fun z => nomatch z)
          replace hrp := b4 _ _ nrp hrp
          replace h_np := b4 _ _ nnp h_np
          have lo2 : (out ++ [Row.less (ps.getD a 0) (ps.getD a 0)]).length = out.length + 1 := by rw [List.length_append]; rfl
          generalize upd G3 ro _ = G4 at *
          refine ⟨_, rfl, rp, _, 1, .int f, rfl, rfl, SqT.of hrp, a1, f, rfl, Nat.le_trans f63 (by decide +kernel), fun dp H3 hd0 sd h_d => ⟨dp, _, rfl, SqL.of h_d, ?_⟩⟩
          have ndp : dp ≠ ro := by
            obtain ⟨_, e, _⟩ := W4.o
            exact (ne_of_none e hd0).symm
          refine for_it (walk_enum (K := K) (a := dp) (xs := (naf f).map V.int)) (fun i σ G => ∃ (y5 y6 : Option V), σ = [some (.ref rl), some (.ref ro), some (.ref pl), some (.ref rp), some (.ref np), y5, y6] ∧ WD H G n.rows ro pl rl rv (putD m (ps.getD a 0) (out ++ [Row.less (ps.getD a 0) (ps.getD a 0)]) 0 ((naf f).take i)) ps ∧ G dp = some (.lst ((naf f).map V.int)) ∧ G rp = some (.tup (Row.times f m a).vs) ∧ G np = some (.tup (renR ps (.times f m a)).vs)) ⟨_, _, rfl, W4.same sd, h_d, sd _ _ hrp, sd _ _ h_np⟩ (fun i σ G _ hP => by obtain ⟨y5, y6, rfl, _, hd, _⟩ := hP; exact SqL.of hd) (fun j v σ G5 G' hj hP hY => ?_) (fun σ G5 hP => ?_)
          · obtain ⟨y5, y6, rfl, W5, hd, hr5, hn5⟩ := hP
            obtain ⟨Tp, u, v', rfl, nT, rfl, e1, e2⟩ := hY
            cases e1
            dsimp only at e2
            rw [List.getElem?_map] at e2
            obtain ⟨d, ed, rfl⟩ := Option.map_eq_some_iff.mp e2
            have sn := same_new (o := .tup [.int (j : Nat), .int d]) nT
            have jl := (List.getElem?_eq_some_iff.mp ed).1
            have bnd := putD_len m (ps.getD a 0) ((naf f).take j) (out ++ [Row.less (ps.getD a 0) (ps.getD a 0)]) 0
            rw [lo2, List.length_take] at bnd
            have nx : putD m (ps.getD a 0) (out ++ [Row.less (ps.getD a 0) (ps.getD a 0)]) 0 ((naf f).take (j + 1)) = putS m (ps.getD a 0) (putD m (ps.getD a 0) (out ++ [Row.less (ps.getD a 0) (ps.getD a 0)]) 0 ((naf f).take j)) j d := by
              rw [List.take_add_one, ed, Option.toList_some, putD_snoc, List.length_take, Nat.min_eq_left (by omega), Nat.zero_add]
            refine ⟨Tp, _, rfl, SqT.of upd_same, rfl, _, _, rfl, _, _, rfl, rfl, ?_⟩
            generalize upd G5 Tp _ = G6 at *
            generalize putD m (ps.getD a 0) (out ++ [Row.less (ps.getD a 0) (ps.getD a 0)]) 0 ((naf f).take j) = ou at *
            replace W5 := W5.same sn
            replace hd := sn _ _ hd
            replace hr5 := sn _ _ hr5
            replace hn5 := sn _ _ hn5
            obtain ⟨ov5, ho5, tro5⟩ := W5.o
            have l5 := tro5.len
            rw [List.length_map] at l5
            refine ⟨_, rfl, rfl, _, rfl, iteN (fun c => ?_) (fun c => ?_)⟩
            · refine ⟨_, rfl, .inl ⟨rfl, _, SqL.of ho5⟩, _, rfl, _, rfl, rp, _, 2, .int (m : Nat), rfl, rfl, SqT.of hr5, a2, _, _, rfl, rfl, _, rfl, np, _, 3, .int ((ps.getD a 0 : Nat) : Int), rfl, rfl, SqT.of hn5, atI_nat (j := 3) rfl, (by show 3 ≤ sizeLine; decide), fun t1 ht1 => ?_⟩
              generalize hG6 : upd _ t1 _ = G7
              obtain ⟨s6, h_t1⟩ := upd_gen hG6 ht1
              have ho6 := s6 _ _ ho5
              refine ⟨ro, _, _, rfl, rfl, ho6, sl_lt (by omega), ?_⟩
              have W8 := (W5.same s6).push (r := .move ((j : Int) - (m : Int)) (ps.getD a 0)) N ho6 (tro5.same s6) h_t1
              have b8 : SameBut ro G6 (upd G7 ro (.lst (ov5 ++ [.ref t1]))) := fun b o nb e => by
                rw [upd_ne nb]
                exact s6 _ _ e
              have ho8 : (upd G7 ro (.lst (ov5 ++ [.ref t1]))) ro = some (.lst (ov5 ++ [.ref t1])) := upd_same
              have tro8 : TsAt (upd G7 ro (.lst (ov5 ++ [.ref t1]))) (ov5 ++ [.ref t1]) ((ou ++ [Row.move ((j : Int) - (m : Int)) (ps.getD a 0)]).map Row.vs) := by
                rw [List.map_append]
                exact TsAt.push ho6 (tro5.same s6) h_t1
              have hd8 := b8 _ _ ndp hd
              have hr8 := b8 _ _ nrp hr5
              have hn8 := b8 _ _ nnp hn5
              generalize upd G7 ro _ = G8 at *
              refine ⟨_, rfl, .inl ⟨rfl, _, SqL.of ho8⟩, (by show 2 ≤ sizeLine; decide), fun zl hzl => ?_⟩
              generalize hGz : upd _ zl _ = G9
              obtain ⟨s9, h_z⟩ := upd_gen hGz hzl
              have W9 := W8.same s9
              have ho9 := s9 _ _ ho8
              have tro9 := tro8.same s9
              have hd9 := s9 _ _ hd8
              have hr9 := s9 _ _ hr8
              have hn9 := s9 _ _ hn8
              have b9 : ∀ (Gt : Hp) (o : HO), SameBut ro Gt (upd Gt ro o) := fun _ _ => SameBut.upd
              have l9 : (ov5 ++ [V.ref t1]).length = ou.length + 1 := by rw [List.length_append, l5]; rfl
              have x1 : ((ov5 ++ [V.ref t1]).length : Int) - 2 = ((ou.length - 1 : Nat) : Int) := by omega
              have x2 : ((ov5 ++ [V.ref t1]).length : Int) - 1 = (ou.length : Int) := by omega
              have dd := naf_digits f d (List.mem_of_getElem? ed)
              have hdd : d = 1 ∨ d = -1 := by have := vne c; omega
              rcases hdd with rfl | rfl
              · refine ⟨_, rfl, _, rfl, rfl, .inr ⟨_, rfl, zl, _, _, .str "plus", rfl, rfl, SqL.of h_z, (by rw [if_neg (show ¬ decide (V.int 1 = V.int (-1)) = true from fun z => by have := veq (of_decide_eq_true z); omega)]; exact a0), _, rfl, ro, _, rfl, .inl (SqL.of ho9), _, _, rfl, rfl, _, rfl, ro, _, rfl, .inl (SqL.of ho9), _, _, rfl, rfl, (by show 3 ≤ sizeLine; decide), fun t2 ht2 => ?_⟩⟩
                generalize hGt : upd _ t2 _ = Gt
                obtain ⟨st, h_t2⟩ := upd_gen hGt ht2
                dsimp only at h_t2
                rw [x1, x2] at h_t2
                have hot := st _ _ ho9
                refine ⟨ro, _, _, rfl, rfl, hot, sl_lt (by rw [List.length_append]; show _ + 1 ≤ 100000; omega), ?_⟩
                have e3 : putS m (ps.getD a 0) ou j 1 = ou ++ [Row.move ((j : Int) - (m : Int)) (ps.getD a 0)] ++ [Row.plus (ou.length - 1) ou.length] := by
                  unfold putS
                  rw [if_neg (by decide), if_pos rfl, List.append_assoc]
                  rfl
                rw [nx, e3]
                exact ⟨_, _, rfl, (W9.same st).push (r := .plus (ou.length - 1) ou.length) N hot (tro9.same st) h_t2, b9 _ _ _ _ ndp (st _ _ hd9), b9 _ _ _ _ nrp (st _ _ hr9), b9 _ _ _ _ nnp (st _ _ hn9)⟩
              · refine ⟨_, rfl, _, rfl, rfl, .inr ⟨_, rfl, zl, _, _, .str "less", rfl, rfl, SqL.of h_z, (by rw [if_pos (decide_eq_true rfl)]; exact a1), _, rfl, ro, _, rfl, .inl (SqL.of ho9), _, _, rfl, rfl, _, rfl, ro, _, rfl, .inl (SqL.of ho9), _, _, rfl, rfl, (by show 3 ≤ sizeLine; decide), fun t2 ht2 => ?_⟩⟩
                generalize hGt : upd _ t2 _ = Gt
                obtain ⟨st, h_t2⟩ := upd_gen hGt ht2
                dsimp only at h_t2
                rw [x1, x2] at h_t2
                have hot := st _ _ ho9
                refine ⟨ro, _, _, rfl, rfl, hot, sl_lt (by rw [List.length_append]; show _ + 1 ≤ 100000; omega), ?_⟩
                have e3 : putS m (ps.getD a 0) ou j (-1) = ou ++ [Row.move ((j : Int) - (m : Int)) (ps.getD a 0)] ++ [Row.less (ou.length - 1) ou.length] := by
                  unfold putS
                  rw [if_neg (by decide), if_neg (by decide), List.append_assoc]
                  rfl
                rw [nx, e3]
                exact ⟨_, _, rfl, (W9.same st).push (r := .less (ou.length - 1) ou.length) N hot (tro9.same st) h_t2, b9 _ _ _ _ ndp (st _ _ hd9), b9 _ _ _ _ nrp (st _ _ hr9), b9 _ _ _ _ nnp (st _ _ hn9)⟩
            · have d0 : d = 0 := veq c
              refine ⟨_, _, rfl, ?_, hd, hr5, hn5⟩
              rw [nx, d0]
              exact W5
          · obtain ⟨y5, y6, rfl, W5, _⟩ := hP
            rw [List.length_map, List.take_length] at W5
            exact ⟨_, _, rfl, W5⟩
      · obtain ⟨y5, y6, rfl, W2⟩ := hM
        obtain ⟨ov, ho, tro⟩ := W2.o
        have lov := tro.len
        rw [List.length_map] at lov
        refine ⟨_, rfl, .inl ⟨rfl, _, SqL.of W2.p⟩, _, rfl, ro, _, rfl, .inl (SqL.of ho), _, _, rfl, rfl, pl, _, _, rfl, rfl, W2.p, sl_lt (by rw [List.length_map]; omega), ?_⟩
        refine ⟨_, _, _, _, rfl, ?_⟩
        have e1 : (ov.length : Int) - 1 = (((outT out ps r).length - 1 : Nat) : Int) := by omega
        show WD H (upd G pl (.lst (ps.map nI ++ [V.int ((ov.length : Int) - 1)]))) n.rows ro pl rl rv (outT out ps r) (ps ++ [(outT out ps r).length - 1])
        rw [e1]
        exact W2.place N
    obtain ⟨y3, y4, y5, y6, rfl, W⟩ := hP
    rw [lrv, spread_all] at W
    refine ⟨_, rfl, _, rfl, (by show 2 ≤ sizeLine; decide), fun t ht => ?_⟩
    have sN := same_new (o := .tup [.ref ro, .ref pl]) ht
    have W2 := W.same sN
    exact q t ro pl _ W2.sm upd_same W2.o W2.p
end
end E1

namespace E1
open PySem PySem.Spec PyProof.Rows L2

theorem frm_get {fs : List FormP} {k : Nat} (h : k < fs.length) : fs[k]? = some (frm fs k) := by
  unfold frm
  rw [List.getD_eq_getElem?_getD, List.getElem?_eq_getElem h]
  rfl
def sp38Amiss : Sp := fun vs H Q _ => ∃ (hp rl : Addr) (n : NetP) (rv : List V) (rows : List Row), vs = [.ref hp, .ref rl] ∧ PartsX H hp n ∧ NetOk n ∧ H rl = some (.lst rv) ∧ TsAt H rv (rows.map Row.vs) ∧ rows.length ≤ 50000 ∧ (∀ i r, rows[i]? = some r → RowOk n.holds.length n.fs.length i r ∧ r.kd ≠ .times) ∧
  ((∀ p ∈ ptsOf (fpt n.fs n.en) (hpts n) (n.fs.map (·.pt)) rows, -200 ≤ p ∧ p ≤ 200) → ∀ H', Same H H' → Q .non H') ∧ (∀ i, FarAt (ptsOf (fpt n.fs n.en) (hpts n) (n.fs.map (·.pt)) rows) i → ∀ H', Same H H' → Q (.int (i : Nat)) H')
theorem last_int (l : List Int) (d : Int) : atI (l.map V.int ++ [d].map V.int) (-1) = some (.int d) := by
  unfold atI
  rw [List.length_append, List.length_map, List.length_map, List.length_singleton, ixN_last (by omega)]
  show (l.map V.int ++ [V.int d])[l.length + 1 - 1]? = _
  rw [Nat.add_sub_cancel, List.getElem?_append_right (by rw [List.length_map]; exact Nat.le_refl _), List.length_map, Nat.sub_self]
  rfl
theorem fm_pt {fs : List FormP} {k : Nat} (h : k < fs.length) : (fs.map fun f : FormP => f.pt).getD k 0 = (frm fs k).pt := by
  rw [List.getD_eq_getElem?_getD, List.getElem?_map, frm_get h]
  rfl
section
variable {P : Program} {w : World} {K : PySem.W.Frag} {mg : Str → Option Value} {base : Heap}
theorem sc__law_amiss : FnScope ["_law_net_here", "_law_rows", "_law_points", "_law_at", "_law_row"] ["_law_net_here", "_law_rows"] (defScope s__law_amiss) := ⟨rfl, rfl, rfl, by decide +kernel, rfl, by decide +kernel, by decide +kernel⟩
theorem ok__law_amiss {f : Addr} {fd : FuncData} {k : Nat} (F : Fun K "_law_amiss" "_law_amiss" s__law_amiss f fd) (z : Zs mg) : FnOk P w K mg base CX0 (k + 1) f fd ["_law_net_here", "_law_rows"] sp38Amiss := by
  refine F.ok sc__law_amiss (fun vs H Q E h => ?_) (fun cdv A outer s H vs Q E hr h => ?_)
  · obtain ⟨hp, rl, n, rv, rows, rfl, _⟩ := h
    rfl
  · obtain ⟨hp, rl, n, rv, rows, rfl, hpp, ok, hrl, tr, l5, ro, qn, qf⟩ := h
    refine ⟨_, (pss_cons (ps_set (i := 2) sc__law_amiss.nd rfl (.inl rfl) (pe_lst pa_nil))
      (pss_cons (ps_for PassesOwn.never rfl (pi_enum (by rfl) z.enumerate (pa_cons (pv 1) pa_nil)) (pg_tup (by rfl) (pgs_cons (pg_name (i := 3) sc__law_amiss.nd rfl (.inl rfl)) (pgs_cons (pg_name (i := 4) sc__law_amiss.nd rfl (.inl rfl)) pgs_nil))) (C8.pss_cut (ps_if (pt_cmpR op_eq (pe_ix ix_tup (pv 4) pe_int (fun _ _ => rfl)) pe_str (nomark _)) (pss_one (ps_expr (pe_bm PySem.F.plainAttrs_list PySem.F.slot_list_append PySem.F.type_list_append mt_append (pv 2) (pa_cons (pe_ix ix_tup (pe_ix ix_list (pe_ix ix_tup (pv 0) pe_int (fun _ _ => rfl)) (pe_ix ix_tup (pv 0) pe_int (fun _ _ => rfl)) (fun _ _ => rfl)) pe_int (fun _ _ => rfl)) pa_nil)))) (pss_one (ps_if (pt_cmpR op_eq (pe_ix ix_tup (pv 4) pe_int (fun _ _ => rfl)) pe_str (nomark _)) (pss_one (ps_expr (pe_bm PySem.F.plainAttrs_list PySem.F.slot_list_append PySem.F.type_list_append mt_append (pv 2) (pa_cons (pe_ix ix_tup (pe_ix ix_list (pe_ix ix_tup (pv 0) pe_int (fun _ _ => rfl)) (pe_ix ix_tup (pe_ix ix_list (pe_ix ix_tup (pv 0) pe_int (fun _ _ => rfl)) (pe_ix ix_tup (pv 4) pe_int (fun _ _ => rfl)) (fun _ _ => rfl)) pe_int (fun _ _ => rfl)) (fun _ _ => rfl)) pe_int (fun _ _ => rfl)) pa_nil)))) (pss_one (ps_if (pt_cmpR op_eq (pe_ix ix_tup (pv 4) pe_int (fun _ _ => rfl)) pe_str (nomark _)) (pss_one (ps_expr (pe_bm PySem.F.plainAttrs_list PySem.F.slot_list_append PySem.F.type_list_append mt_append (pv 2) (pa_cons (pe_op op_sub (pe_ix ix_list (pv 2) (pe_ix ix_tup (pv 4) pe_int (fun _ _ => rfl)) (fun _ _ => rfl)) (pe_ix ix_tup (pv 4) pe_int (fun _ _ => rfl))) pa_nil)))) (pss_one (ps_if (pt_cmpR op_eq (pe_ix ix_tup (pv 4) pe_int (fun _ _ => rfl)) pe_str (nomark _)) (pss_one (ps_expr (pe_bm PySem.F.plainAttrs_list PySem.F.slot_list_append PySem.F.type_list_append mt_append (pv 2) (pa_cons (pe_ix ix_tup (pe_ix ix_list (pe_ix ix_tup (pv 0) pe_int (fun _ _ => rfl)) (pe_ix ix_tup (pv 4) pe_int (fun _ _ => rfl)) (fun _ _ => rfl)) pe_int (fun _ _ => rfl)) pa_nil)))) (pss_one (ps_expr (pe_bm PySem.F.plainAttrs_list PySem.F.slot_list_append PySem.F.type_list_append mt_append (pv 2) (pa_cons (pe_callB (call_max2 rfl) (by rfl) z.max (by decide +kernel) (pa_cons (pe_ix ix_list (pv 2) (pe_ix ix_tup (pv 4) pe_int (fun _ _ => rfl)) (fun _ _ => rfl)) (pa_cons (pe_ix ix_list (pv 2) (pe_ix ix_tup (pv 4) pe_int (fun _ _ => rfl)) (fun _ _ => rfl)) pa_nil))) pa_nil)))))))))))
      (pss_one (ps_if (pt_cmpR op_gt (pe_callB call_abs (by rfl) z.abs (by decide +kernel) (pa_cons (pe_ix ix_list (pv 2) (pe_un un_neg pe_int) (fun _ _ => rfl)) pa_nil)) pe_int (nomark _)) (pss_one (ps_ret (pv 3))) pss_nil))))
      (pss_one (ps_ret pe_non)))), ?_⟩
    obtain ⟨fa, ra, ha, tl0, hhp, ⟨fv, hfa, tf⟩, _, ⟨hv, hha, th⟩⟩ := id hpp
    have lrv := tr.len
    rw [List.length_map] at lrv
    have lp : (ptsOf (fpt n.fs n.en) (hpts n) (n.fs.map (·.pt)) rows).length = rows.length := ptsOf_len ..
    have lhp : (hpts n).length = n.holds.length := List.length_map ..
    refine ⟨(by show 0 ≤ sizeLine; decide), fun pl hpl0 => ?_⟩
    generalize hG1 : upd _ pl _ = G1
    obtain ⟨s1, h_pl⟩ := upd_gen hG1 hpl0
    refine ⟨_, rfl, rl, _, rfl, SqL.of (s1 _ _ hrl), for_it (walk_enum (K := K) (a := rl) (xs := rv)) (fun i σ G => ∃ (y3 y4 : Option V), σ = [some (.ref hp), some (.ref rl), some (.ref pl), y3, y4] ∧ Same H G ∧ G pl = some (.lst ((ptsOf (fpt n.fs n.en) (hpts n) (n.fs.map (·.pt)) (rows.take i)).map V.int)) ∧ ∀ j, j < i → -200 ≤ (ptsOf (fpt n.fs n.en) (hpts n) (n.fs.map (·.pt)) rows).getD j 0 ∧ (ptsOf (fpt n.fs n.en) (hpts n) (n.fs.map (·.pt)) rows).getD j 0 ≤ 200) ⟨none, none, rfl, s1, h_pl, fun j hj => absurd hj (Nat.not_lt_zero _)⟩ (fun i σ G _ hP => by obtain ⟨y3, y4, rfl, s, _⟩ := hP; exact SqL.of (s _ _ hrl)) (fun i v σ G G' hi hP hY => ?_) (fun σ G hP => ?_)⟩
    · obtain ⟨y3, y4, rfl, sg, hp', near⟩ := hP
      obtain ⟨Tp, u, v', rfl, nT, rfl, e1, e2⟩ := hY
      cases e1
      obtain ⟨rp, xs, rfl, ex, hrp0⟩ := tr.get e2
      rw [List.getElem?_map] at ex
      obtain ⟨r, er, rfl⟩ := Option.map_eq_some_iff.mp ex
      have sn := same_new (o := .tup [.int (i : Nat), .ref rp]) nT
      have S := sg.trans sn
      have hrp := S _ _ hrp0
      have hpl := sn _ _ hp'
      have il := (List.getElem?_eq_some_iff.mp er).1
      have pn := pts_next (en := fpt n.fs n.en) (hp := hpts n) (fp := n.fs.map (·.pt)) er
      obtain ⟨rok, nt⟩ := ro i r er
      have li : (ptsOf (fpt n.fs n.en) (hpts n) (n.fs.map (·.pt)) (rows.take i)).length = i := by
        rw [ptsOf_len, List.length_take]
        omega
      have nxt := ptsOf_next (en := fpt n.fs n.en) (hp := hpts n) (fp := n.fs.map (·.pt)) er
      refine ⟨Tp, _, rfl, SqT.of upd_same, rfl, _, _, rfl, _, _, rfl, rfl, ?_⟩
      generalize upd G Tp _ = G2 at *
      refine ⟨fun σ G => σ = [some (.ref hp), some (.ref rl), some (.ref pl), some (.int (i : Nat)), some (.ref rp)] ∧ Same H G ∧ G pl = some (.lst ((ptsOf (fpt n.fs n.en) (hpts n) (n.fs.map (·.pt)) (rows.take (i + 1))).map V.int)), ?_, fun σ G3 hM => ?_⟩
      · have PUT : ∀ (x : Int), x = rowPt (fpt n.fs n.en) (hpts n) (n.fs.map (·.pt)) (ptsOf (fpt n.fs n.en) (hpts n) (n.fs.map (·.pt)) (rows.take i)) r → Same H (upd G2 pl (.lst ((ptsOf (fpt n.fs n.en) (hpts n) (n.fs.map (·.pt)) (rows.take i)).map V.int ++ [.int x]))) ∧ (upd G2 pl (.lst ((ptsOf (fpt n.fs n.en) (hpts n) (n.fs.map (·.pt)) (rows.take i)).map V.int ++ [.int x]))) pl = some (.lst ((ptsOf (fpt n.fs n.en) (hpts n) (n.fs.map (·.pt)) (rows.take (i + 1))).map V.int)) := fun x e => by
          refine ⟨fun b o e => ?_, ?_⟩
          · rw [upd_ne (ne_of_none e hpl0)]
            exact S _ _ e
          · rw [upd_same, nxt, List.map_append, e]
            rfl
        have AP : ((ptsOf (fpt n.fs n.en) (hpts n) (n.fs.map (·.pt)) (rows.take i)).map V.int).length < sizeLine := by
          rw [List.length_map, li]
          exact sl_lt (by omega)
        cases r with
        | inn =>
          obtain ⟨fp, ep, hfp⟩ := tf.at (i := n.en) (xs := (frm n.fs n.en).vs) (by rw [List.getElem?_map, frm_get ok.en]; rfl)
          exact ⟨_, rfl, rp, _, 0, .str _, rfl, rfl, SqT.of hrp, a0, rfl, _, rfl, iteC (d := true) (decide_eq_true rfl) (iteT ⟨_, rfl, .inl ⟨rfl, _, SqL.of hpl⟩, _, rfl, hp, _, 0, .ref fa, rfl, rfl, SqT.of (S _ _ hhp), a0, _, rfl, hp, _, 1, .int n.en, rfl, rfl, SqT.of (S _ _ hhp), a1, fa, _, _, .ref fp, rfl, rfl, SqL.of (S _ _ hfa), atI_nat ep, fp, _, 1, .int (frm n.fs n.en).pt, rfl, rfl, SqT.of (S _ _ hfp), a1, pl, _, _, rfl, rfl, hpl, AP, rfl, PUT _ (fm_pt ok.en).symm⟩)⟩
        | old k =>
          have h := rok
          have h2 : k < n.holds.length := h
          have eh := List.getElem?_eq_getElem h2
          have hk := (ok.ho _ (List.getElem_mem h2)).1
          obtain ⟨hq, ehq, hhq⟩ := th.at (i := k) (xs := (n.holds[k]).vs) (by rw [List.getElem?_map, eh]; rfl)
          obtain ⟨fp, ep, hfp⟩ := tf.at (i := n.holds[k].k) (xs := (frm n.fs n.holds[k].k).vs) (by rw [List.getElem?_map, frm_get hk]; rfl)
          exact ⟨_, rfl, rp, _, 0, .str _, rfl, rfl, SqT.of hrp, a0, rfl, _, rfl, iteC (d := false) (decide_eq_false (fun z => kd_ne .old .inn (fun z => nomatch z) (V.str.inj z))) (iteF ⟨_, rfl, rp, _, 0, .str _, rfl, rfl, SqT.of hrp, a0, rfl, _, rfl, iteC (d := true) (decide_eq_true rfl) (iteT ⟨_, rfl, .inl ⟨rfl, _, SqL.of hpl⟩, _, rfl, hp, _, 0, .ref fa, rfl, rfl, SqT.of (S _ _ hhp), a0, _, rfl, hp, _, 3, .ref ha, rfl, rfl, SqT.of (S _ _ hhp), atI_nat (j := 3) rfl, _, rfl, rp, _, 1, .int (k : Nat), rfl, rfl, SqT.of hrp, a1, ha, _, _, .ref hq, rfl, rfl, SqL.of (S _ _ hha), atI_nat ehq, hq, _, 0, .int (n.holds[k].k : Nat), rfl, rfl, SqT.of (S _ _ hhq), a0, fa, _, _, .ref fp, rfl, rfl, SqL.of (S _ _ hfa), atI_nat ep, fp, _, 1, .int (frm n.fs n.holds[k].k).pt, rfl, rfl, SqT.of (S _ _ hfp), a1, pl, _, _, rfl, rfl, hpl, AP, rfl, PUT _ (by
            show _ = (n.holds.map fun h => fpt n.fs h.k).getD k 0
            rw [List.getD_eq_getElem?_getD, List.getElem?_map, eh]
            exact (fm_pt hk).symm)⟩)⟩)⟩
        | move m a =>
          have h := rok
          exact ⟨_, rfl, rp, _, 0, .str _, rfl, rfl, SqT.of hrp, a0, rfl, _, rfl, iteC (d := false) (decide_eq_false (fun z => kd_ne .move .inn (fun z => nomatch z) (V.str.inj z))) (iteF ⟨_, rfl, rp, _, 0, .str _, rfl, rfl, SqT.of hrp, a0, rfl, _, rfl, iteC (d := false) (decide_eq_false (fun z => kd_ne .move .old (fun z => nomatch z) (V.str.inj z))) (iteF ⟨_, rfl, rp, _, 0, .str _, rfl, rfl, SqT.of hrp, a0, rfl, _, rfl, iteC (d := true) (decide_eq_true rfl) (iteT ⟨_, rfl, .inl ⟨rfl, _, SqL.of hpl⟩, _, rfl, _, rfl, rp, _, 2, .int (a : Nat), rfl, rfl, SqT.of hrp, a2, pl, _, _, _, rfl, rfl, SqL.of hpl, ints_at (by rw [li]; exact h.2), _, rfl, rp, _, 1, .int m, rfl, rfl, SqT.of hrp, a1, _, _, rfl, rfl, pl, _, _, rfl, rfl, hpl, AP, rfl, PUT _ rfl⟩)⟩)⟩)⟩
        | keep f a =>
          have h := rok
          obtain ⟨fp, ep, hfp⟩ := tf.at (i := f) (xs := (frm n.fs f).vs) (by rw [List.getElem?_map, frm_get h.1]; rfl)
          exact ⟨_, rfl, rp, _, 0, .str _, rfl, rfl, SqT.of hrp, a0, rfl, _, rfl, iteC (d := false) (decide_eq_false (fun z => kd_ne .keep .inn (fun z => nomatch z) (V.str.inj z))) (iteF ⟨_, rfl, rp, _, 0, .str _, rfl, rfl, SqT.of hrp, a0, rfl, _, rfl, iteC (d := false) (decide_eq_false (fun z => kd_ne .keep .old (fun z => nomatch z) (V.str.inj z))) (iteF ⟨_, rfl, rp, _, 0, .str _, rfl, rfl, SqT.of hrp, a0, rfl, _, rfl, iteC (d := false) (decide_eq_false (fun z => kd_ne .keep .move (fun z => nomatch z) (V.str.inj z))) (iteF ⟨_, rfl, rp, _, 0, .str _, rfl, rfl, SqT.of hrp, a0, rfl, _, rfl, iteC (d := true) (decide_eq_true rfl) (iteT ⟨_, rfl, .inl ⟨rfl, _, SqL.of hpl⟩, _, rfl, hp, _, 0, .ref fa, rfl, rfl, SqT.of (S _ _ hhp), a0, _, rfl, rp, _, 1, .int (f : Nat), rfl, rfl, SqT.of hrp, a1, fa, _, _, .ref fp, rfl, rfl, SqL.of (S _ _ hfa), atI_nat ep, fp, _, 1, .int (frm n.fs f).pt, rfl, rfl, SqT.of (S _ _ hfp), a1, pl, _, _, rfl, rfl, hpl, AP, rfl, PUT _ (fm_pt h.1).symm⟩)⟩)⟩)⟩)⟩
        | times f m a => exact absurd rfl nt
        | plus a b =>
          have h := rok
          exact ⟨_, rfl, rp, _, 0, .str _, rfl, rfl, SqT.of hrp, a0, rfl, _, rfl, iteC (d := false) (decide_eq_false (fun z => kd_ne .plus .inn (fun z => nomatch z) (V.str.inj z))) (iteF ⟨_, rfl, rp, _, 0, .str _, rfl, rfl, SqT.of hrp, a0, rfl, _, rfl, iteC (d := false) (decide_eq_false (fun z => kd_ne .plus .old (fun z => nomatch z) (V.str.inj z))) (iteF ⟨_, rfl, rp, _, 0, .str _, rfl, rfl, SqT.of hrp, a0, rfl, _, rfl, iteC (d := false) (decide_eq_false (fun z => kd_ne .plus .move (fun z => nomatch z) (V.str.inj z))) (iteF ⟨_, rfl, rp, _, 0, .str _, rfl, rfl, SqT.of hrp, a0, rfl, _, rfl, iteC (d := false) (decide_eq_false (fun z => kd_ne .plus .keep (fun z => nomatch z) (V.str.inj z))) (iteF ⟨_, rfl, .inl ⟨rfl, _, SqL.of hpl⟩, _, rfl, _, rfl, rp, _, 1, .int (a : Nat), rfl, rfl, SqT.of hrp, a1, pl, _, _, _, rfl, rfl, SqL.of hpl, ints_at (by rw [li]; exact h.1), _, rfl, _, rfl, rp, _, 2, .int (b : Nat), rfl, rfl, SqT.of hrp, a2, pl, _, _, _, rfl, rfl, SqL.of hpl, ints_at (by rw [li]; exact h.2), _, _, rfl, pl, _, _, rfl, rfl, hpl, AP, rfl, PUT _ rfl⟩)⟩)⟩)⟩)⟩
        | less a b =>
          have h := rok
          exact ⟨_, rfl, rp, _, 0, .str _, rfl, rfl, SqT.of hrp, a0, rfl, _, rfl, iteC (d := false) (decide_eq_false (fun z => kd_ne .less .inn (fun z => nomatch z) (V.str.inj z))) (iteF ⟨_, rfl, rp, _, 0, .str _, rfl, rfl, SqT.of hrp, a0, rfl, _, rfl, iteC (d := false) (decide_eq_false (fun z => kd_ne .less .old (fun z => nomatch z) (V.str.inj z))) (iteF ⟨_, rfl, rp, _, 0, .str _, rfl, rfl, SqT.of hrp, a0, rfl, _, rfl, iteC (d := false) (decide_eq_false (fun z => kd_ne .less .move (fun z => nomatch z) (V.str.inj z))) (iteF ⟨_, rfl, rp, _, 0, .str _, rfl, rfl, SqT.of hrp, a0, rfl, _, rfl, iteC (d := false) (decide_eq_false (fun z => kd_ne .less .keep (fun z => nomatch z) (V.str.inj z))) (iteF ⟨_, rfl, .inl ⟨rfl, _, SqL.of hpl⟩, _, rfl, _, rfl, rp, _, 1, .int (a : Nat), rfl, rfl, SqT.of hrp, a1, pl, _, _, _, rfl, rfl, SqL.of hpl, ints_at (by rw [li]; exact h.1), _, rfl, _, rfl, rp, _, 2, .int (b : Nat), rfl, rfl, SqT.of hrp, a2, pl, _, _, _, rfl, rfl, SqL.of hpl, ints_at (by rw [li]; exact h.2), _, _, rfl, pl, _, _, rfl, rfl, hpl, AP, rfl, PUT _ rfl⟩)⟩)⟩)⟩)⟩
      · obtain ⟨rfl, s3, hp3⟩ := hM
        have last : atI ((ptsOf (fpt n.fs n.en) (hpts n) (n.fs.map (·.pt)) (rows.take (i + 1))).map V.int) (-1) = some (.int ((ptsOf (fpt n.fs n.en) (hpts n) (n.fs.map (·.pt)) rows).getD i 0)) := by
          rw [nxt, List.map_append, pn]
          exact last_int _ _
        refine ⟨_, rfl, _, rfl, pl, _, -1, .int ((ptsOf (fpt n.fs n.en) (hpts n) (n.fs.map (·.pt)) rows).getD i 0), rfl, rfl, SqL.of hp3, last, _, rfl, _, _, rfl, rfl, _, rfl, ite2 (fun c => ?_) (fun c => ?_)⟩
        · have c2 := of_decide_eq_true c
          exact ⟨_, rfl, qf i ⟨by omega, by split at c2 <;> omega, near⟩ _ s3⟩
        · have c2 := toNB c
          refine ⟨_, _, rfl, s3, hp3, fun j hj => ?_⟩
          by_cases ji : j = i
          · rw [ji]
            split at c2 <;> omega
          · exact near j (by omega)
    · obtain ⟨y3, y4, rfl, sg, _, near⟩ := hP
      exact qn (all_near fun j hj => near j (by omega)) _ sg
end
end E1

namespace E1
open PySem PySem.Spec PyProof.Rows L2
theorem dp_ints {K : PySem.W.Frag} {H : Hp} : ∀ ds : List Int, DpAll K H (ds.map V.int) (ds.map PyData.int)
  | [] => .nil
  | d :: ds => .cons (.int d) (dp_ints ds)

theorem shaped_tup (ns : List Int) : SeqAt.shaped (.tuple (ns.map PyData.int)) = true := PySem.W.ke_shaped_ints ns
theorem eqv_tup (ns : List Int) : PyData.eqv (.tuple (ns.map PyData.int)) (.tuple (ns.map PyData.int)) = true := SeqAt.eqv_refl _ (SeqAt.canLay_of_shaped (shaped_tup ns))
theorem plain_wh {n : NetP} (ok : NetOk n) (bd : ∀ p ∈ n.plain.pts, -200 ≤ p ∧ p ≤ 200) (x : Int) (st : List Int) (i : Nat) (il : i < n.rows.length) : Wh 1000 ((n.nums x st).getD i 0) (n.pts.getD i 0) = Wh 1000 ((n.plain.nums x st).getD ((spread n.rows).2.getD i 0) 0) (n.plain.pts.getD ((spread n.rows).2.getD i 0) 0) := by
  have bd2 := bd
  rw [plain_pts] at bd2
  have v := plain_val ok bd2 x st i il
  have e0 : n.plain.nums x st = accL (numRow n.fs (ptsOf (fpt n.fs n.en) (hpts n) (n.fs.map (·.pt)) (spread n.rows).1) x st) (spread n.rows).1 := by
    unfold NetP.nums
    rw [plain_pts]
    rfl
  rw [e0, plain_pts]
  exact v
theorem stok_plain {n : NetP} {st : List Int} (h : StOk n st) : StOk n.plain st := by
  refine ⟨by rw [h.len]; exact (List.length_map ..).symm, fun i x k e1 e2 => ?_⟩
  replace e1 : (n.holds.map fun h => (⟨h.k, h.s, (spread n.rows).2.getD h.l 0⟩ : Hold))[i]? = some x := e1
  rw [List.getElem?_map] at e1
  obtain ⟨y, ey, rfl⟩ := Option.map_eq_some_iff.mp e1
  exact h.inr i y k ey e2
def spWorth : Sp := fun vs H Q _ => ∃ (x p y q : Int), vs = [.int x, .int p, .int y, .int q] ∧ Wh 1000 x p = Wh 1000 y q ∧ -200 ≤ p ∧ p ≤ 200 ∧ -200 ≤ q ∧ q ≤ 200 ∧ x.natAbs < 2 ^ 900000 ∧ y.natAbs < 2 ^ 900000 ∧ Q (.bl true) H
/-- states and words of turns -/
structure TurnsOk (n : NetP) (es : List (List Int × Int)) : Prop where
  many : es.length ≤ 20
  ok : ∀ e ∈ es, StOk n e.1 ∧ inR (frm n.fs n.en).w e.2 = true ∧ NumOk n e.2 e.1 ∧ NumOk n.plain e.2 e.1
/-- a list of pairs of a state and a word -/
def StatesAt (H : Hp) (vs : List V) (es : List (List Int × Int)) : Prop := vs.length = es.length ∧ ∀ (i : Nat) (v : V), vs[i]? = some v → ∃ (t s : Addr) (e : List Int × Int), v = .ref t ∧ es[i]? = some e ∧ H t = some (.tup [.ref s, .int e.2]) ∧ H s = some (.tup (e.1.map V.int))
theorem StatesAt.same {H H' : Hp} {vs : List V} {es : List (List Int × Int)} (h : StatesAt H vs es) (s : Same H H') : StatesAt H' vs es := ⟨h.1, fun i v e => by
  obtain ⟨t, q, x, h1, h2, h3, h4⟩ := h.2 i v e
  exact ⟨t, q, x, h1, h2, s _ _ h3, s _ _ h4⟩⟩
def spSame38 (C CN : Addr) : Sp := fun vs H Q _ => ∃ (p q pl wl : Addr) (n : NetP) (es : List (List Int × Int)), vs = [.ref p, .ref q, .ref pl, .ref wl] ∧ NetAt C CN H p n ∧ NetAt C CN H q n.plain ∧ H pl = some (.lst ((spread n.rows).2.map nI)) ∧ (∃ sv, H wl = some (.lst sv) ∧ StatesAt H sv es) ∧ TurnsOk n es ∧ True ∧ ∀ H', Same H H' → Q (.bl true) H'
theorem wh_near {K x y p q mx : Int} (h : Wh K x p = Wh K y q) (hp : p ≤ mx) (hq : q ≤ mx) (hm : mx ≤ K) : x * two (mx - p) = y * two (mx - q) := by
  unfold Wh at h
  rw [show K - p = (mx - p) + (K - mx) by omega, show K - q = (mx - q) + (K - mx) by omega, two_add (by omega) (by omega), two_add (by omega) (by omega), ← Int.mul_assoc, ← Int.mul_assoc] at h
  exact Int.eq_of_mul_eq_mul_right (by have := two_pos (K - mx); omega) h
section
variable {P : Program} {w : World} {K : PySem.W.Frag} {mg : Str → Option Value} {base : Heap}
theorem sc__law_worth_alike : FnScope ["_law_one", "_law_here", "_law_other", "_law_there", "_law_point_here"] ["_law_one", "_law_here", "_law_other", "_law_there"] (defScope s__law_worth_alike) := ⟨rfl, rfl, rfl, by decide +kernel, rfl, by decide +kernel, by decide +kernel⟩
theorem ok__law_worth_alike {f : Addr} {fd : FuncData} {k : Nat} (F : Fun K "_law_worth_alike" "_law_worth_alike" s__law_worth_alike f fd) (z : Zs mg) : FnOk P w K mg base CX0 (k + 1) f fd ["_law_one", "_law_here", "_law_other", "_law_there"] spWorth := by
  refine F.ok sc__law_worth_alike (fun vs H Q E h => ?_) (fun cdv A outer s H vs Q E hr h => ?_)
  · obtain ⟨x, p, y, q, rfl, _⟩ := h
    rfl
  · obtain ⟨x, p, y, q2, rfl, wh, p0, p1, q0, q1, xb, yb, q⟩ := h
    refine ⟨_, (pss_cons (ps_set (i := 4) sc__law_worth_alike.nd rfl (.inl rfl) (pe_callB (call_max2 rfl) (by rfl) z.max (by decide +kernel) (pa_cons (pv 1) (pa_cons (pv 3) pa_nil))))
      (pss_one (ps_ret (pe_cmpR op_eq (pe_op op_shlW (pv 0) (pe_op op_sub (pv 4) (pv 1))) (pe_op op_shlW (pv 2) (pe_op op_sub (pv 4) (pv 3))) (nomark _))))), ?_⟩
    refine ⟨_, rfl, _, rfl, _, _, rfl, ?_⟩
    obtain ⟨mx, em, m1, m2, m3⟩ : ∃ mx : Int, (if q2 > p then q2 else p) = mx ∧ p ≤ mx ∧ q2 ≤ mx ∧ mx ≤ 200 := ⟨_, rfl, by split <;> omega, by split <;> omega, by split <;> omega⟩
    rw [em]
    have sh : ∀ (v r : Int), v.natAbs < 2 ^ 900000 → r ≤ mx → -200 ≤ r → CShl v (mx - r) := fun v r hv h1 h2 => by
      have e : mx - r = (((mx - r).toNat : Nat) : Int) := by omega
      rw [e]
      exact shl_ok hv (by omega)
    refine ⟨_, rfl, _, rfl, _, rfl, _, _, rfl, rfl, _, _, rfl, rfl, sh x p xb m1 p0, _, rfl, _, rfl, _, rfl, _, _, rfl, rfl, _, _, rfl, rfl, sh y q2 yb m2 q0, rfl, ?_⟩
    have e := wh_near wh m1 m2 (by omega)
    exact (congrArg (fun c => Q (.bl c) H) (decide_eq_true (congrArg V.int e))).mpr q
theorem sc__law_same : FnScope ["_law_made_here", "_law_told", "_law_places", "_law_states", "_law_here", "_law_there", "_law_state", "_law_word_here", "_law_numbers", "_law_behind", "_law_others", "_law_beyond", "_law_at", "_law_place"] ["_law_made_here", "_law_told", "_law_places", "_law_states"] (defScope s__law_same) := ⟨rfl, rfl, rfl, by decide +kernel, rfl, by decide +kernel, by decide +kernel⟩
theorem ok__law_same {f : Addr} {fd : FuncData} {C CN : Addr} (TN : NTxt K mg CN) (F : Fun K "_law_same" "_law_same" s__law_same f fd) (z : Zs mg) (n_points : CalM P w K mg base 1 CN "points" ["self"] (spPtsM C CN)) (c_turned : Cal P w K mg base 9 "turned" ["net", "state", "word"] (spTurned C CN)) (c__law_worth_alike : Cal P w K mg base 1 "_law_worth_alike" ["_law_one", "_law_here", "_law_other", "_law_there"] spWorth) : FnOk P w K mg base CX0 10 f fd ["_law_made_here", "_law_told", "_law_places", "_law_states"] (spSame38 C CN) := by
  refine F.ok sc__law_same (fun vs H Q E h => ?_) (fun cdv A outer s H vs Q E hr h => ?_)
  · obtain ⟨p, q, pl, wl, n, es, rfl, _⟩ := h
    rfl
  · obtain ⟨p, q, pl, wl, n, es, rfl, hn, hm, hpl, hwl, tw, fin, qq⟩ := h
    refine ⟨_, (pss_cons (ps_set (i := 4) sc__law_same.nd rfl (.inl rfl) (pe_calm0 (pv 0) TN.cl n_points hr))
      (pss_cons (ps_set (i := 5) sc__law_same.nd rfl (.inl rfl) (pe_calm0 (pv 1) TN.cl n_points hr))
      (pss_cons (ps_for PassesOwn.never rfl (pi_list (pv 3)) (pg_tup (by rfl) (pgs_cons (pg_name (i := 6) sc__law_same.nd rfl (.inl rfl)) (pgs_cons (pg_name (i := 7) sc__law_same.nd rfl (.inl rfl)) pgs_nil))) (pss_cons (ps_asg (pe_cal c_turned hr (pa_cons (pv 0) (pa_cons (pv 6) (pa_cons (pv 7) pa_nil)))) (pg_tup (by rfl) (pgs_cons (pg_name (i := 8) sc__law_same.nd rfl (.inl rfl)) (pgs_cons (pg_name (i := 9) sc__law_same.nd rfl (.inl rfl)) pgs_nil))))
      (pss_cons (ps_asg (pe_cal c_turned hr (pa_cons (pv 1) (pa_cons (pv 6) (pa_cons (pv 7) pa_nil)))) (pg_tup (by rfl) (pgs_cons (pg_name (i := 10) sc__law_same.nd rfl (.inl rfl)) (pgs_cons (pg_name (i := 11) sc__law_same.nd rfl (.inl rfl)) pgs_nil))))
      (pss_cons (ps_if (pt_cmpR (op_neD hr.units) (pv 9) (pv 11) (nomark _)) (pss_one (ps_ret pe_bl)) pss_nil)
      (pss_one (ps_for PassesOwn.never rfl (pi_enum (by rfl) z.enumerate (pa_cons (pv 2) pa_nil)) (pg_tup (by rfl) (pgs_cons (pg_name (i := 12) sc__law_same.nd rfl (.inl rfl)) (pgs_cons (pg_name (i := 13) sc__law_same.nd rfl (.inl rfl)) pgs_nil))) (pss_one (ps_if (pt_not (pt_val (pe_cal c__law_worth_alike hr (pa_cons (pe_ix ix_list (pv 8) (pv 12) (fun _ _ => rfl)) (pa_cons (pe_ix ix_list (pv 4) (pv 12) (fun _ _ => rfl)) (pa_cons (pe_ix ix_list (pv 10) (pv 13) (fun _ _ => rfl)) (pa_cons (pe_ix ix_list (pv 5) (pv 13) (fun _ _ => rfl)) pa_nil))))))) (pss_one (ps_ret pe_bl)) pss_nil))))))))
      (pss_one (ps_ret pe_bl))))), ?_⟩
    obtain ⟨sv, hsv, stv⟩ := hwl
    obtain ⟨ok, dx, _, _, _, _, _, _, _, b⟩ := id hn
    obtain ⟨okP, dx2, _, _, _, _, _, _, _, b2⟩ := id hm
    have bdP := okP.po
    have r60 := ok.r2
    have rP : (spread n.rows).1.length ≤ 60 := okP.r2
    have lP : (spread n.rows).2.length = n.rows.length := by
      have := spread_len (rows := n.rows) n.rows.length (Nat.le_refl _)
      rwa [spread_all] at this
    refine ⟨_, rfl, p, dx, _, rfl, b.ob, nl_no (by decide +kernel), p, n, rfl, hn, fun hl H1 hl0 s1 h_hl => ?_⟩
    refine ⟨_, rfl, q, dx2, _, rfl, s1 _ _ b2.ob, nl_no (by decide +kernel), q, n.plain, rfl, hm.same s1, fun tl H2 tl0 s2 h_tl => ?_⟩
    replace h_hl := s2 _ _ h_hl
    have S2 := s1.trans s2
    have lpn : n.pts.length = n.rows.length := accL_len _ _
    have lpp : n.plain.pts.length = (spread n.rows).1.length := accL_len _ _
    have ltP : ∀ a, a < n.rows.length → (spread n.rows).2.getD a 0 < (spread n.rows).1.length := fun a ha => by
      have := place_lt (rows := n.rows) (Nat.le_refl _) ha
      rwa [spread_all] at this
    refine ⟨_, rfl, wl, rfl, ⟨_, SqL.of (S2 _ _ hsv)⟩, ?_⟩
    refine for_it (walk_list (K := K) (a := wl) (xs := sv)) (fun i σ G => ∃ (y6 y7 y8 y9 y10 y11 y12 y13 : Option V), σ = [some (.ref p), some (.ref q), some (.ref pl), some (.ref wl), some (.ref hl), some (.ref tl), y6, y7, y8, y9, y10, y11, y12, y13] ∧ Same H2 G) ⟨none, none, none, none, none, none, none, none, rfl, .refl _⟩ (fun i σ G _ hP => by obtain ⟨_, _, _, _, _, _, _, _, rfl, s⟩ := hP; exact SqL.of (s _ _ (S2 _ _ hsv))) (fun i v σ G G' hi hP hY => ?_) (fun σ G hP => ?_)
    · obtain ⟨y6, y7, y8, y9, y10, y11, y12, y13, rfl, sg⟩ := hP
      obtain ⟨rfl, hx⟩ := hY
      obtain ⟨t, sa, ⟨st, x⟩, rfl, ee, h_t, h_s⟩ := (stv.same (S2.trans sg)).2 i v hx
      obtain ⟨so, xin, nk, nkP⟩ := tw.ok _ (List.mem_of_getElem? ee)
      have SG := S2.trans sg
      refine ⟨t, _, rfl, SqT.of h_t, rfl, _, _, rfl, _, _, rfl, rfl, ?_⟩
      refine ⟨_, rfl, _, rfl, _, rfl, p, sa, n, x, st, rfl, hn.same SG, h_s, so, xin, nk, fun t1 l1 s1' J1 q1 ht1 hl1 hs1 h_t1 h_l1 h_s1 => ⟨t1, _, rfl, SqT.of h_t1, rfl, _, _, rfl, _, _, rfl, rfl, ?_⟩⟩
      refine ⟨_, rfl, _, rfl, _, rfl, q, sa, n.plain, x, st, rfl, hm.same (SG.trans q1), q1 _ _ h_s, stok_plain so, xin, nkP, fun t2 l2 s2' J2 q2 ht2 hl2 hs2 h_t2 h_l2 h_s2 => ⟨t2, _, rfl, SqT.of h_t2, rfl, _, _, rfl, _, _, rfl, rfl, ?_⟩⟩
      replace h_l1 := q2 _ _ h_l1
      replace h_s1 := q2 _ _ h_s1
      rw [plain_behind ok bdP] at h_s2
      have Q2 : Same H2 J2 := sg.trans (q1.trans q2)
      refine ⟨_, rfl, _, rfl, .tuple ((n.behind (n.nums x st)).map PyData.int), .tuple ((n.behind (n.nums x st)).map PyData.int), .tup (SqT.of h_s1) (dp_ints _), .tup (SqT.of h_s2) (dp_ints _), shaped_tup _, shaped_tup _, _, rfl, ?_⟩
      rw [eqv_tup]
      refine iteF ?_
      have hpl2 := Q2 _ _ (S2 _ _ hpl)
      have b1 : ∀ k ∈ n.nums x st, k.natAbs < 2 ^ 900000 := fun k hk => nk k hk
      have b2' : ∀ k ∈ n.plain.nums x st, k.natAbs < 2 ^ 900000 := fun k hk => nkP k hk
      have ln1 := nums_len n x st
      have ln2 := nums_len n.plain x st
      have lrp : n.plain.rows.length = (spread n.rows).1.length := rfl
      refine ⟨_, rfl, pl, _, rfl, SqL.of hpl2, for_it (walk_enum (K := K) (a := pl) (xs := (spread n.rows).2.map nI)) (fun j σ G => ∃ (y12 y13 : Option V), σ = [some (.ref p), some (.ref q), some (.ref pl), some (.ref wl), some (.ref hl), some (.ref tl), some (.ref sa), some (.int x), some (.ref l1), some (.ref s1'), some (.ref l2), some (.ref s2'), y12, y13] ∧ Same J2 G) ⟨_, _, rfl, .refl _⟩ (fun j σ G _ hP => by obtain ⟨_, _, rfl, s⟩ := hP; exact SqL.of (s _ _ hpl2)) (fun j v σ G G' hj hP hY => ?_) (fun σ G hP => ?_)⟩
      · obtain ⟨y12, y13, rfl, sj⟩ := hP
        obtain ⟨Tp, u, v', rfl, nT, rfl, e1, e2⟩ := hY
        cases e1
        dsimp only at e2
        rw [List.getElem?_map] at e2
        obtain ⟨c, ec, rfl⟩ := Option.map_eq_some_iff.mp e2
        have sn := same_new (o := .tup [.int (j : Nat), nI c]) nT
        have SJ := sj.trans sn
        have jl : j < n.rows.length := by
          have := (List.getElem?_eq_some_iff.mp ec).1
          omega
        have ecc : (spread n.rows).2.getD j 0 = c := by rw [List.getD_eq_getElem?_getD, ec]; rfl
        have cl := ltP j jl
        rw [ecc] at cl
        refine ⟨Tp, _, rfl, SqT.of upd_same, rfl, _, _, rfl, _, _, rfl, rfl, ?_⟩
        generalize upd G Tp _ = G2 at *
        refine ⟨_, rfl, _, rfl, l1, _, _, _, rfl, rfl, SqL.of (SJ _ _ h_l1), ints_at (by omega), _, rfl, _, rfl, hl, _, _, _, rfl, rfl, SqL.of (SJ _ _ (Q2 _ _ h_hl)), ints_at (by omega), _, rfl, _, rfl, l2, _, _, _, rfl, rfl, SqL.of (SJ _ _ h_l2), ints_at (by omega), _, rfl, _, rfl, tl, _, _, _, rfl, rfl, SqL.of (SJ _ _ (Q2 _ _ h_tl)), ints_at (by omega), ?_⟩
        have v := plain_wh ok bdP x st j jl
        rw [ecc] at v
        have pp := pts_bd ok.po j
        have pq := pts_bd bdP c
        refine ⟨_, _, _, _, rfl, v, pp.1, pp.2, pq.1, pq.2, getD_lt b1 (Nat.pow_pos (by decide)), getD_lt b2' (Nat.pow_pos (by decide)), ⟨_, rfl, iteF ⟨_, _, rfl, SJ⟩⟩⟩
      · obtain ⟨y12, y13, rfl, sj⟩ := hP
        exact ⟨_, _, _, _, _, _, _, _, rfl, Q2.trans sj⟩
    · obtain ⟨_, _, _, _, _, _, _, _, rfl, sg⟩ := hP
      exact qq _ (S2.trans sg)
end
end E1

namespace E1
open PySem PySem.Spec PyProof.Rows L2

open PySem.ErrX (kP kA)
structure Errs38 (K : PySem.W.Frag) (mg : Str → Option Value) (CE CB : Addr) : Prop where
  gE : mg "EchoError" = some (.ref CE)
  gB : mg "BadNet" = some (.ref CB)
  XB : ExcC K CB
  exB : PySem.W.exmOne K (.ref CB) (.ref CB) = some true
  bE : PySem.W.kitOne K (.ref CB) (.ref CE) = some true
  noP : PySem.W.findIn K (.ref CB) "part" = some none
  noA : PySem.W.findIn K (.ref CB) "at" = some none
theorem bn_part {v u : V} : List.lookup ("part" : Str) [(kP, v), (kA, u)] = some v := by
  rw [List.lookup_cons, beq_self_eq_true]
theorem bn_at {v u : V} : List.lookup ("at" : Str) [(kP, v), (kA, u)] = some u := by
  rw [List.lookup_cons, show (("at" : Str) == kP) = false by decide +kernel]
  show List.lookup kA [(kA, u)] = some u
  rw [List.lookup_cons, beq_self_eq_true]
def Bad38 (n : NetP) (x : V) : Prop := (60 < (spread n.rows).1.length ∧ x = .non) ∨ ((spread n.rows).1.length ≤ 60 ∧ ∃ i, FarAt n.plain.pts i ∧ x = .int (i : Nat))
def spRef38 (C CN : Addr) : Sp := fun vs H Q _ => ∃ (p : Addr) (n : NetP), vs = [.ref p] ∧ NetAt C CN H p n ∧ (60 < (spread n.rows).1.length ∨ ∃ i, FarAt n.plain.pts i) ∧ ∀ x, Bad38 n x → ∀ t H', Same H H' → H' t = some (.tup [.bl true, .str "rows", x]) → Q (.ref t) H'
def spRight38 (C CN : Addr) : Sp := fun vs H Q _ => ∃ (hp p rl pl : Addr) (n : NetP), vs = [.ref hp, .ref p, .ref rl, .ref pl] ∧ PartsX H hp n ∧ NetAt C CN H p n ∧ (∃ ov, H rl = some (.lst ov) ∧ TsAt H ov ((spread n.rows).1.map Row.vs)) ∧ H pl = some (.lst ((spread n.rows).2.map nI)) ∧ (spread n.rows).1.length ≤ 60 ∧ (∀ p ∈ n.plain.pts, -200 ≤ p ∧ p ≤ 200) ∧ ∀ H', Same H H' → Q (.bl true) H'
theorem far_no {n : NetP} {i : Nat} (h : FarAt n.plain.pts i) (po : ∀ p ∈ n.plain.pts, -200 ≤ p ∧ p ≤ 200) : False := h.2.1 (pts_bd po i)
theorem prs_ints {H : Hp} (xs : List Int) : Prs DFlat (xs.map V.int) (xs.map V.int) H := by
  refine ⟨rfl, fun i x y e1 e2 => ?_⟩
  rw [e1] at e2
  cases e2
  rw [List.getElem?_map] at e1
  obtain ⟨k, _, rfl⟩ := Option.map_eq_some_iff.mp e1
  exact ⟨rfl, rfl, decide_eq_true rfl⟩
theorem prs_nats {H : Hp} (ks : List Nat) : Prs DFlat (ks.map nI) (ks.map nI) H := by
  have := prs_ints (H := H) (ks.map fun k : Nat => (k : Int))
  rwa [List.map_map] at this
theorem ndt {α : Type} [DecidableEq α] (x : α) : (!decide (x = x)) = false := by
  rw [decide_eq_true rfl]
  rfl
section
variable {P : Program} {w : World} {K : PySem.W.Frag} {mg : Str → Option Value} {base : Heap}
theorem sc__law_refused : FnScope ["_law_made_here", "_law_found", "e"] ["_law_made_here"] (defScope s__law_refused) := ⟨rfl, rfl, rfl, by decide +kernel, rfl, by decide +kernel, by decide +kernel⟩
theorem ok__law_refused {f : Addr} {fd : FuncData} {C CN CE CB : Addr} (X : Errs38 K mg CE CB) (EB : PySem.ErrX.ErrC K mg "BadNet" CB) (c_without_times : CalX P w K mg base 8 "without_times" ["net"] [] (spWT C CN CB)) (F : Fun K "_law_refused" "_law_refused" s__law_refused f fd) (z : Zs mg) : FnOk P w K mg base CX0 9 f fd ["_law_made_here"] (spRef38 C CN) := by
  refine F.ok sc__law_refused (fun vs H Q E h => ?_) (fun cdv A outer s H vs Q E hr h => ?_)
  · obtain ⟨p, n, rfl, _⟩ := h
    rfl
  · obtain ⟨p, n, rfl, hn, bad, q⟩ := h
    refine ⟨_, (pss_cons (ps_set (i := 1) sc__law_refused.nd rfl (.inl rfl) pe_non)
      (pss_cons (ps_try_as (i := 2) (c := .ref CB) (tb := fun W => tDrop (tCallS (spWT C CN CB) (WE W) (tCons (tVar 0) tNil))) (ts := fun a cls d => tAsg (tTup (tCons (tCB (rIsX K a cls d) (tCons (tVar 2) (tCons (tC (.ref CE)) tNil))) (tCons (tXf a cls d CB "part" (tVar 2)) (tCons (tXf a cls d CB "at" (tVar 2)) tNil)))) (gName 1)) rfl rfl sc__law_refused.nd rfl rfl ⟨rfl, by decide, .inl X.gB⟩ takes0 (fun W pn xe tk _ => (pss_one (ps_expr (pe_calxS c_without_times hr tk (pa_cons (pv 0) pa_nil)))))
      (fun a oe cls d pn hz hf => (pss_one (ps_set (i := 1) sc__law_refused.nd rfl (.inl rfl) (pe_tup (pa_cons (pe_callB (call_isX hz hf) (by rfl) z.isinstance (by decide +kernel) (pa_cons (pv 2) (pa_cons (pe_glob (v := .ref CE) (by rfl) X.gE rfl) pa_nil))) (pa_cons (by exact (pe_xf (E1.ErrC.xf EB) X.noP hz hf (pv 2))) (pa_cons (by exact (pe_xf (E1.ErrC.xf EB) X.noA hz hf (pv 2))) pa_nil))))))))
      (pss_one (ps_ret (pv 1))))), ?_⟩
    refine ⟨_, rfl, p, n, rfl, hn, fun l60 po => ?_, fun big d G s1 hd0 hbn => ⟨true, X.exB, fun _ a ha => ?_, fun z => nomatch z⟩, fun l60 i far d G s1 hd0 hbn => ⟨true, X.exB, fun _ a ha => ?_, fun z => nomatch z⟩⟩
    · exfalso
      rcases bad with b | ⟨i, b⟩
      · omega
      · exact far_no b po
    · skip
      refine ⟨_, rfl, CB, _, _, true, rfl, X.XB, rfl, (fun u h => h), (fun dd e => by cases e; exact ⟨_, hbn⟩), X.bE, ?_⟩
      refine ⟨_, rfl, rfl, rfl, d, _, _, rfl, hbn, bn_part, _, rfl, rfl, rfl, d, _, _, rfl, hbn, bn_at, (by show 3 ≤ sizeLine; decide), fun t ht => ?_⟩
      exact ⟨_, rfl, q _ (.inl ⟨big, rfl⟩) t _ (s1.trans (same_new ht)) upd_same⟩
    · skip
      refine ⟨_, rfl, CB, _, _, true, rfl, X.XB, rfl, (fun u h => h), (fun dd e => by cases e; exact ⟨_, hbn⟩), X.bE, ?_⟩
      refine ⟨_, rfl, rfl, rfl, d, _, _, rfl, hbn, bn_part, _, rfl, rfl, rfl, d, _, _, rfl, hbn, bn_at, (by show 3 ≤ sizeLine; decide), fun t ht => ?_⟩
      exact ⟨_, rfl, q _ (.inr ⟨l60, i, far, rfl⟩) t _ (s1.trans (same_new ht)) upd_same⟩

theorem sc__law_right : FnScope ["_law_net_here", "_law_made_here", "_law_rows", "_law_places", "_law_found", "_law_told", "_law_holds", "_law_form_here", "_law_word_here", "_law_at"] ["_law_net_here", "_law_made_here", "_law_rows", "_law_places"] (defScope s__law_right) := ⟨rfl, rfl, rfl, by decide +kernel, rfl, by decide +kernel, by decide +kernel⟩
theorem ok__law_right {f : Addr} {fd : FuncData} {C CN CB : Addr} (TN : NTxt K mg CN) {fF : Addr} {fdF : FuncData} (okF : FnOk P w K mg base CX0 1 fF fdF ["self", "other"] (spEq (RF C))) (OQ : OwnQ K C fF fdF) (c_without_times : CalX P w K mg base 8 "without_times" ["net"] [] (spWT C CN CB)) (F : Fun K "_law_right" "_law_right" s__law_right f fd) (z : Zs mg) (n_rows : CalM P w K mg base 1 CN "rows" ["self"] (spRowsM C CN)) (n_forms : CalM P w K mg base 1 CN "forms" ["self"] (spFormsM C CN)) (n_holds : CalM P w K mg base 1 CN "holds" ["self"] (spHoldsM C CN)) (n_enters : CalM P w K mg base 1 CN "enters" ["self"] (spEnM C CN)) (n_out : CalM P w K mg base 1 CN "out" ["self"] (spOutM C CN)) : FnOk P w K mg base CX0 9 f fd ["_law_net_here", "_law_made_here", "_law_rows", "_law_places"] (spRight38 C CN) := by
  refine F.ok sc__law_right (fun vs H Q E h => ?_) (fun cdv A outer s H vs Q E hr h => ?_)
  · obtain ⟨hp, p, rl, pl, n, rfl, _⟩ := h
    rfl
  · obtain ⟨hp, p, rl, pl, n, rfl, hpp, hn, ho, hpl, l60, po, q⟩ := h
    refine ⟨_, (pss_cons (ps_set (i := 4) sc__law_right.nd rfl (.inl rfl) (pe_calx c_without_times hr (pa_cons (pv 1) pa_nil)))
      (pss_cons (ps_if (PW.pt (pw_or (pt_not (pt_val (pe_callB call_isi (by rfl) z.isinstance (by decide +kernel) (pa_cons (pv 4) (pa_cons (pe_bltn (v := .ty "tuple") (by rfl) z.tuple (by decide +kernel) rfl) pa_nil))))) (pw_or (pt_cmpR op_ne (pe_callB call_len_seq (by rfl) z.len PySem.boot_len (pa_cons (pv 4) pa_nil)) pe_int (nomark _)) (pw_or1 (pt_cmpR (op_neG (rcNe_list mon_flat eqG_flat) (hr.mono (by decide))) (pe_ix ix_tup (pv 4) pe_int (fun _ _ => rfl)) (pv 3) (nomark _)))))) (pss_one (ps_ret pe_bl)) pss_nil)
      (pss_cons (ps_set (i := 5) sc__law_right.nd rfl (.inl rfl) (pe_ix ix_tup (pv 4) pe_int (fun _ _ => rfl)))
      (pss_cons (ps_setLc (i := 6) (own := [("_law_form_here", 7), ("_law_word_here", 8), ("_law_at", 9)]) (g := gTup K 3 (gCons (gName 7) (gCons (gName 8) (gCons (gName 9) gNil)))) (tt := tYes) (te := (tTup (tCons (tVar 7) (tCons (tVar 8) (tCons (tOp (rIxL K) (tVar 3) (tVar 9)) tNil))))) (by rfl) sc__law_right.nd rfl rfl (sw_true rfl rfl rfl (by decide +kernel)) (pi_list (pe_ix ix_tup (pv 0) pe_int (fun _ _ => rfl))) (blkOk_by (own := [("_law_form_here", 7), ("_law_word_here", 8), ("_law_at", 9)]) (N := ["_law_net_here", "_law_made_here", "_law_rows", "_law_places", "_law_found", "_law_told", "_law_holds", "_law_form_here", "_law_word_here", "_law_at"]) (sc := defScope s__law_right) (by decide +kernel)) (fun _ _ _ _ _ => by exact (pg_tup (by rfl) (pgs_cons (pg_name (i := 7) sc__law_right.nd rfl (.inl rfl)) (pgs_cons (pg_name (i := 8) sc__law_right.nd rfl (.inl rfl)) (pgs_cons (pg_name (i := 9) sc__law_right.nd rfl (.inl rfl)) pgs_nil))))) (fun _ _ _ _ _ => by exact pts_nil) (fun _ _ _ _ _ => by exact (pe_tup (pa_cons (pv 7) (pa_cons (pv 8) (pa_cons (pe_ix ix_list (pv 3) (pv 9) (fun _ _ => rfl)) pa_nil))))))
      (pss_cons (ps_if (PW.pt (pw_or (pt_cmpR (op_neG (rcNe_list (mon_tup mon_flat) (eqG_tup mon_flat eqG_flat)) (hr.mono (by decide))) (pe_calm0 (pv 5) TN.cl n_rows hr) (pv 2) (nomark _)) (pw_or (pt_cmpR (op_neG (rcNe_list (mon_tup mon_flat) (eqG_tup mon_flat eqG_flat)) (hr.mono (by decide))) (pe_calm0 (pv 5) TN.cl n_holds hr) (pv 6) (nomark _)) (pw_or1 (pt_cmpR op_ne (pe_calm0 (pv 5) TN.cl n_out hr) (pe_ix ix_list (pv 3) (pe_ix ix_tup (pv 0) pe_int (fun _ _ => rfl)) (fun _ _ => rfl)) (nomark _)))))) (pss_one (ps_ret pe_bl)) pss_nil)
      (pss_one (ps_ret (pe_and (pe_cmpR (op_eqG (rcG_list (mon_ins RF.mon) (eqG_ins okF OQ.find OQ.fn OQ.b pass0)) (hr.mono (by decide))) (pe_calm0 (pv 5) TN.cl n_forms hr) (pe_calm0 (pv 1) TN.cl n_forms hr) (nomark _)) (pe_one (pe_cmpR op_eq (pe_calm0 (pv 5) TN.cl n_enters hr) (pe_ix ix_tup (pv 0) pe_int (fun _ _ => rfl)) (nomark _))))))))))), ?_⟩
    obtain ⟨ok, dx, _, _, _, _, _, _, _, b⟩ := id hn
    obtain ⟨fa, ra, ha, tl0, hhp, ⟨fv0, hfa, tf0⟩, _, ⟨hv, hha, th⟩⟩ := id hpp
    obtain ⟨ov, hrl, tro⟩ := ho
    have lP : (spread n.rows).2.length = n.rows.length := by
      have := spread_len (rows := n.rows) n.rows.length (Nat.le_refl _)
      rwa [spread_all] at this
    have lh := th.len
    rw [List.length_map] at lh
    have h6 := ok.h2
    refine ⟨_, rfl, p, n, rfl, hn, fun _ _ t q1 pl2 G1 s1 h_t hq h_pl2 => ?_, fun big => by omega, fun _ i far => (far_no far po).elim⟩
    have hpl1 := s1 _ _ hpl
    refine ⟨_, rfl, _, .ty "tuple", _, _, true, rfl, .ty _, .base (.tup h_t), kit_ty (by decide +kernel), _, rfl, iteF ⟨_, rfl, t, _, rfl, .inr (SqT.of h_t), rfl, _, rfl, iteF ?_⟩⟩
    refine ⟨_, rfl, t, _, 1, .ref pl2, rfl, rfl, SqT.of h_t, a1, _, rfl, ⟨pl2, pl, _, _, rfl, rfl, h_pl2, hpl1, prs_nats _⟩, fun G2 e2 => ⟨_, rfl, iteF ?_⟩⟩
    have S2 : Same H G2 := fun b o e => e2 _ _ (s1 _ _ e)
    replace hq := hq.same (fun b o e => e2 _ _ e : Same G1 G2)
    replace h_t := e2 _ _ h_t
    obtain ⟨_, dx2, _, _, _, _, _, _, _, b2⟩ := id hq
    refine ⟨_, rfl, t, _, 0, .ref q1, rfl, rfl, SqT.of h_t, a0, ?_⟩
    refine ⟨_, rfl, hp, _, 3, .ref ha, rfl, rfl, SqT.of (S2 _ _ hhp), atI_nat (j := 3) rfl, ha, rfl, ⟨_, SqL.of (S2 _ _ hha)⟩, fun D hD => ?_⟩
    refine lc_it (walk_list (K := K) (a := ha) (xs := hv)) (fun i G3 => Same G2 G3 ∧ ∃ ws, G3 D = some (.lst ws) ∧ TsAt G3 ws ((n.plain.holds.take i).map Hold.vs)) ⟨same_new hD, [], upd_same, .nil⟩ (fun i G3 _ hP => SqL.of ((S2.trans hP.1) _ _ hha)) (fun i v G3 G' hi hP hY => ?_) (fun G3 hP => ?_)
    · obtain ⟨s3, ws, hd, tw⟩ := hP
      obtain ⟨rfl, hx⟩ := hY
      obtain ⟨hp2, xs, rfl, ex, hhp2⟩ := th.get hx
      rw [List.getElem?_map] at ex
      obtain ⟨hh, eh, rfl⟩ := Option.map_eq_some_iff.mp ex
      obtain ⟨_, _, a, ea⟩ := ok.ho hh (List.mem_of_getElem? eh)
      have ll : hh.l < (spread n.rows).2.length := by rw [lP]; exact (List.getElem?_eq_some_iff.mp ea).1
      have lw := tw.len
      rw [List.length_map, List.length_take] at lw
      refine ⟨hp2, _, rfl, SqT.of (s3 _ _ (S2 _ _ hhp2)), rfl, _, _, rfl, _, _, rfl, _, _, rfl, rfl, rfl, _, rfl, _, rfl, _, rfl, _, rfl, pl, _, _, _, rfl, rfl, SqL.of (s3 _ _ (S2 _ _ hpl)), nat_at ll, (by show 3 ≤ sizeLine; decide), fun t1 ht1 => ?_⟩
      generalize hG7 : upd _ t1 _ = G7
      obtain ⟨s7, h_t1⟩ := upd_gen hG7 ht1
      have hd7 := s7 _ _ hd
      have e2' : n.plain.holds[i]? = some ⟨hh.k, hh.s, (spread n.rows).2.getD hh.l 0⟩ := by
        show (n.holds.map _)[i]? = _
        rw [List.getElem?_map, eh]
        rfl
      refine ⟨ws, hd7, sl_lt (by omega), fun b o e => ?_, ws ++ [.ref t1], upd_same, ?_⟩
      · rw [upd_ne (ne_of_none e hD)]
        exact s7 _ _ (s3 _ _ e)
      · rw [List.take_add_one, e2', Option.toList_some, List.map_append]
        exact TsAt.push hd7 (tw.same s7) h_t1
    obtain ⟨s3, ws, hd, tw⟩ := hP
    have lph : n.plain.holds.length = n.holds.length := List.length_map ..
    rw [lh, ← lph, List.take_length] at tw
    have S3 := S2.trans s3
    refine ⟨_, rfl, q1, dx2, _, rfl, s3 _ _ b2.ob, nl_no (by decide +kernel), q1, n.plain, rfl, hq.same s3, fun rl2 rv2 G4 hr2 s4 h_rl2 hrr => ?_⟩
    have S4 := S3.trans s4
    refine ⟨_, rfl, ⟨rl2, rl, rv2, ov, rfl, rfl, h_rl2, S4 _ _ hrl, hrr.prs (tro.same S4) (rows_flat _)⟩, fun G5 e5 => ⟨_, rfl, iteF ?_⟩⟩
    have T5 : Same G2 G5 := fun b o e => e5 _ _ (s4 _ _ (s3 _ _ e))
    have S5 := S2.trans T5
    refine ⟨_, rfl, q1, dx2, _, rfl, T5 _ _ b2.ob, nl_no (by decide +kernel), q1, n.plain, rfl, hq.same T5, fun hl2 hv2 G6 hh2 s6 h_hl2 hhh => ?_⟩
    have hdw : Same G3 G6 := fun b o e => s6 _ _ (e5 _ _ (s4 _ _ e))
    refine ⟨_, rfl, ⟨hl2, D, hv2, ws, rfl, rfl, h_hl2, hdw _ _ hd, hhh.prs (tw.same hdw) (holds_flat _)⟩, fun G7 e7 => ⟨_, rfl, iteF ?_⟩⟩
    have T7 : Same G2 G7 := fun b o e => e7 _ _ (s6 _ _ (T5 _ _ e))
    have S7 := S2.trans T7
    refine ⟨_, rfl, q1, dx2, _, rfl, T7 _ _ b2.ob, nl_no (by decide +kernel), q1, n.plain, rfl, hq.same T7, _, rfl, _, rfl, hp, _, 4, .int n.out, rfl, rfl, SqT.of (S7 _ _ hhp), atI_nat (j := 4) rfl, pl, _, _, _, rfl, rfl, SqL.of (S7 _ _ hpl), nat_at (by rw [lP]; exact ok.out), rfl, _, rfl, iteC (d := false) (ndt _) (iteF ?_)⟩
    refine ⟨_, rfl, q1, dx2, _, rfl, T7 _ _ b2.ob, nl_no (by decide +kernel), q1, n.plain, rfl, hq.same T7, fun fl1 fv1 G8 hf1 s8 h_fl1 hff1 => ?_⟩
    have S8 := S7.trans s8
    refine ⟨_, rfl, p, dx, _, rfl, S8 _ _ b.ob, nl_no (by decide +kernel), p, n, rfl, hn.same S8, fun fl2 fv2 G9 hf2 s9 h_fl2 hff2 => ?_⟩
    refine ⟨⟨fl1, fl2, fv1, fv2, rfl, rfl, s9 _ _ h_fl1, h_fl2, (hff1.same s9).prs hff2⟩, fun Ga ea => ⟨_, rfl, ?_⟩⟩
    have Ta : Same G2 Ga := fun b o e => ea _ _ (s9 _ _ (s8 _ _ (T7 _ _ e)))
    have Sa := S2.trans Ta
    refine ⟨_, rfl, q1, dx2, _, rfl, Ta _ _ b2.ob, nl_no (by decide +kernel), q1, n.plain, rfl, hq.same Ta, _, rfl, hp, _, 1, .int n.en, rfl, rfl, SqT.of (Sa _ _ hhp), a1, rfl, ?_⟩
    exact (congrArg (fun c => Q (.bl c) Ga) (decide_eq_true rfl)).mpr (q Ga Sa)
end
end E1

namespace E1
open PySem PySem.Spec PyProof.Rows L2
def spLaw (K : PySem.W.Frag) : Sp := fun vs H Q _ => ∃ (a : Addr) (ns : List Int), vs = [.ref a] ∧ SqL K H a (ns.map V.int) ∧ ns.length ≤ 63 ∧ ∀ H', Q (.bl true) H'
theorem cut_cells38 {ns : List Int} : (cutV (ns.map V.int) (some 2) (some 10)).length ≤ 8 ∧ ∀ v ∈ cutV (ns.map V.int) (some 2) (some 10), ∃ c, v = .int c := by
  refine ⟨?_, fun v hv => ?_⟩
  · unfold cutV
    rw [List.length_take]
    refine Nat.le_trans (Nat.min_le_left _ _) ?_
    rw [show (some (10 : Int)) = some ((10 : Nat) : Int) from rfl, show (some (2 : Int)) = some ((2 : Nat) : Int) from rfl, HT.sIx_nat, HT.sIx_nat]
    omega
  · unfold cutV at hv
    have := List.mem_of_mem_drop (List.mem_of_mem_take hv)
    obtain ⟨c, _, rfl⟩ := List.mem_map.mp this
    exact ⟨c, rfl⟩


theorem far_or (pts : List Int) : (∀ p ∈ pts, -200 ≤ p ∧ p ≤ 200) ∨ ∃ i, FarAt pts i := by
  have key : ∀ k, k ≤ pts.length → (∀ j, j < k → -200 ≤ pts.getD j 0 ∧ pts.getD j 0 ≤ 200) ∨ ∃ i, FarAt pts i := by
    intro k
    induction k with
    | zero => exact fun _ => .inl fun j hj => absurd hj (Nat.not_lt_zero _)
    | succ k ih =>
      intro hk
      rcases ih (by omega) with h | h
      · by_cases c : -200 ≤ pts.getD k 0 ∧ pts.getD k 0 ≤ 200
        · refine .inl fun j hj => ?_
          by_cases jk : j = k
          · rw [jk]
            exact c
          · exact h j (by omega)
        · exact .inr ⟨k, by omega, c, h⟩
      · exact .inr h
  rcases key pts.length (Nat.le_refl _) with h | h
  · exact .inl (all_near h)
  · exact .inr h
theorem room65 {k : Nat} {A : Around} (h : Room k A) : A.units + 65 < cLine := by
  have := h.un
  omega
/-- the refusal's data -/
def refD (d : PyData) : PyData := .tuple [.bool true, .str "rows", d]
theorem far_one {pts : List Int} {i j : Nat} (h : FarAt pts i) (g : FarAt pts j) : i = j := by
  rcases Nat.lt_trichotomy i j with c | c | c
  · exact absurd (g.2.2 i c) h.2.1
  · exact c
  · exact absurd (h.2.2 j c) g.2.1
/-- no row is a times row -/
theorem spread_plain {n : NetP} (ok : NetOk n) : ∀ i, i ≤ n.rows.length → ∀ (j : Nat) (r : Row), (spread (n.rows.take i)).1[j]? = some r → r.kd ≠ .times
  | 0, _, j, r, e => by cases e
  | i + 1, h, j, r, e => by
    have er := List.getElem?_eq_getElem (show i < n.rows.length by omega)
    rw [spread_next er] at e
    have ih := spread_plain ok i (by omega)
    replace e : (outT (spread (n.rows.take i)).1 (spread (n.rows.take i)).2 n.rows[i])[j]? = some r := e
    generalize n.rows[i] = r0 at *
    generalize (spread (n.rows.take i)).1 = out at *
    generalize (spread (n.rows.take i)).2 = pl at *
    have put : ∀ (m a : Nat) (ds : List Int) (out : List Row) (k : Nat), (∀ (j : Nat) (r : Row), out[j]? = some r → r.kd ≠ .times) → ∀ (j : Nat) (r : Row), (putD m a out k ds)[j]? = some r → r.kd ≠ .times := by
      intro m a ds
      induction ds with
      | nil => exact fun _ _ h => h
      | cons d ds ihd =>
        intro out k ho
        refine ihd (putS m a out k d) (k + 1) fun j r e => ?_
        unfold putS at e
        split at e
        · exact ho j r e
        · rw [show ∀ x y : Row, out ++ [x, y] = out ++ [x] ++ [y] from fun x y => by rw [List.append_assoc]; rfl] at e
          rcases row_get e with e | ⟨_, rfl⟩
          · rcases row_get e with e | ⟨_, rfl⟩
            · exact ho j r e
            · exact fun z => nomatch z
          · split <;> exact fun z => nomatch z
    cases r0 with
    | times f m a =>
      refine put m (pl.getD a 0) (naf f) (out ++ [Row.less (pl.getD a 0) (pl.getD a 0)]) 0 (fun j r e => ?_) j r e
      rcases row_get e with e | ⟨_, rfl⟩
      · exact ih j r e
      · exact fun z => nomatch z
    | _ =>
      rcases row_get (show (out ++ [_])[j]? = some r from e) with e | ⟨_, rfl⟩
      · exact ih j r e
      · exact fun z => nomatch z
section
variable {P : Program} {w : World} {K : PySem.W.Frag} {mg : Str → Option Value} {base : Heap}
theorem sc_law : FnScope ["_law_script", "_law_net_here", "_law_made_here", "_law_rows", "_law_places", "_law_amiss_here", "_law_dues", "_law_well_here", "_law_states", "_law_state", "_law_cell", "_law_told", "_law_form_here", "_law_word_here", "_law_at"] ["_law_script"] (defScope s_law) := ⟨rfl, rfl, rfl, by decide +kernel, rfl, by decide +kernel, by decide +kernel⟩
theorem ok_law {f : Addr} {fd : FuncData} {C CN CB : Addr} (F : Fun K "law" "law" s_law f fd) (z : Zs mg) {fN : Addr} {fdN : FuncData} (okN : FnOk P w K mg base CX0 4 fN fdN ["self", "other"] (spEq (RN C CN))) (ON : OwnQ K CN fN fdN) (c__law_draw : Cal P w K mg base 1 "_law_draw" ["_law_well_here", "_law_many"] spDraw) (c_without_times : CalX P w K mg base 8 "without_times" ["net"] [] (spWT C CN CB)) (c__law_cell_at : Cal P w K mg base 1 "_law_cell_at" ["_law_script", "_law_k"] (spCell K)) (c__law_well : Cal P w K mg base 1 "_law_well" ["_law_cell"] spWell) (c__law_net : Cal P w K mg base 6 "_law_net" ["_law_well_here", "_law_widths", "_law_most"] sp2Net) (c__law_made : Cal P w K mg base 8 "_law_made" ["_law_net_here"] (spLMade2 C CN)) (c__law_due : Cal P w K mg base 2 "_law_due" ["_law_rows"] sp38Due) (c__law_amiss : Cal P w K mg base 1 "_law_amiss" ["_law_net_here", "_law_rows"] sp38Amiss) (c__law_refused : Cal P w K mg base 9 "_law_refused" ["_law_made_here"] (spRef38 C CN)) (c__law_right : Cal P w K mg base 9 "_law_right" ["_law_net_here", "_law_made_here", "_law_rows", "_law_places"] (spRight38 C CN)) (c__law_word : Cal P w K mg base 2 "_law_word" ["_law_form_here", "_law_well_here"] sp2Word) (c_turned : Cal P w K mg base 9 "turned" ["net", "state", "word"] (spTurned C CN)) (c__law_same : Cal P w K mg base 10 "_law_same" ["_law_made_here", "_law_told", "_law_places", "_law_states"] (spSame38 C CN)) : FnOk P w K mg base CX0 11 f fd ["_law_script"] (spLaw K) := by
  refine F.ok sc_law (fun vs H Q E h => ?_) (fun cdv A outer s H vs Q E hr h => ?_)
  · obtain ⟨a, ns, rfl, _⟩ := h
    rfl
  · obtain ⟨as, ns, rfl, hS, hlen, q⟩ := h
    refine ⟨_, (pss_cons (ps_set (i := 1) sc_law.nd rfl (.inr rfl) (pe_cal c__law_net hr (pa_cons (pe_cal c__law_well hr (pa_cons (pe_cal c__law_cell_at hr (pa_cons (pv 0) (pa_cons pe_int pa_nil))) pa_nil)) (pa_cons (pe_lst (pa_cons pe_int (pa_cons pe_int (pa_cons pe_int (pa_cons pe_int (pa_cons pe_int (pa_cons pe_non pa_nil))))))) (pa_cons pe_int pa_nil)))))
      (pss_cons (ps_set (i := 2) sc_law.nd rfl (.inl rfl) (pe_cal c__law_made hr (pa_cons (pv 1) pa_nil)))
      (pss_cons (ps_asg (pe_cal c__law_due hr (pa_cons (pe_ix ix_tup (pv 1) pe_int (fun _ _ => rfl)) pa_nil)) (pg_tup (by rfl) (pgs_cons (pg_name (i := 3) sc_law.nd rfl (.inl rfl)) (pgs_cons (pg_name (i := 4) sc_law.nd rfl (.inl rfl)) pgs_nil))))
      (C8.pss_cut (ps_set (i := 5) sc_law.nd rfl (.inl rfl) (pe_cal c__law_amiss hr (pa_cons (pv 1) (pa_cons (pv 3) pa_nil))))
      (pss_cons (ps_if (PW.pt (pw_or (pt_cmpR op_gt (pe_callB call_len_seq (by rfl) z.len PySem.boot_len (pa_cons (pv 3) pa_nil)) pe_int (nomark _)) (pw_or1 (pt_cmpR op_notN (pv 5) pe_non (nomark _))))) (pss_cons (ps_set (i := 6) sc_law.nd rfl (.inl rfl) (pe_op op_cat (pe_op op_rep (pe_lst (pa_cons (pe_tup (pa_cons pe_bl (pa_cons pe_str (pa_cons pe_non pa_nil)))) pa_nil)) (pe_callTy call_int1 (by rfl) z.int (by decide +kernel) (pa_cons (pe_cmpR op_gt (pe_callB call_len_seq (by rfl) z.len PySem.boot_len (pa_cons (pv 3) pa_nil)) pe_int (nomark _)) pa_nil))) (pe_lst (pa_cons (pe_tup (pa_cons pe_bl (pa_cons pe_str (pa_cons (pv 5) pa_nil)))) pa_nil))))
      (pss_one (ps_ret (pe_and (pe_cmpR (op_inD (room65 hr)) (pe_cal c__law_refused hr (pa_cons (pv 2) pa_nil)) (pv 6) (by rfl)) (pe_and (pe_cmpR (op_inD (room65 hr)) (pe_cal c__law_refused hr (pa_cons (pv 2) pa_nil)) (pv 6) (by rfl)) (pe_one (pe_cmpR (op_eqG (rcG_ins okN ON.find ON.fn ON.b pass0) (hr.mono (by decide))) (pv 2) (pe_cal c__law_made hr (pa_cons (pv 1) pa_nil)) (nomark _)))))))) pss_nil)
      (pss_cons (ps_if (PW.pt (pw_or (pt_not (pt_val (pe_cal c__law_right hr (pa_cons (pv 1) (pa_cons (pv 2) (pa_cons (pv 3) (pa_cons (pv 4) pa_nil))))))) (pw_or1 (pt_not (pt_val (pe_cal c__law_right hr (pa_cons (pv 1) (pa_cons (pv 2) (pa_cons (pv 3) (pa_cons (pv 4) pa_nil)))))))))) (pss_one (ps_ret pe_bl)) pss_nil)
      (pss_cons (ps_set (i := 7) sc_law.nd rfl (.inr rfl) (pe_cal c__law_well hr (pa_cons (pe_cal c__law_cell_at hr (pa_cons (pv 0) (pa_cons pe_int pa_nil))) pa_nil)))
      (pss_cons (ps_set (i := 8) sc_law.nd rfl (.inl rfl) (pe_lst pa_nil))
      (pss_cons (ps_set (i := 9) sc_law.nd rfl (.inl rfl) (pe_callTy call_tuple_of (by rfl) z.tuple (by decide +kernel) (pa_cons (pe_lc (own := [("_law_form_here", 12), ("_law_word_here", 13), ("_law_at", 14)]) (g := gTup K 3 (gCons (gName 12) (gCons (gName 13) (gCons (gName 14) gNil)))) (tt := tYes) (te := (tVar 13)) (by rfl) sc_law.nd (pi_list (pe_ix ix_tup (pv 1) pe_int (fun _ _ => rfl))) (blkOk_by (own := [("_law_form_here", 12), ("_law_word_here", 13), ("_law_at", 14)]) (N := ["_law_script", "_law_net_here", "_law_made_here", "_law_rows", "_law_places", "_law_amiss_here", "_law_dues", "_law_well_here", "_law_states", "_law_state", "_law_cell", "_law_told", "_law_form_here", "_law_word_here", "_law_at"]) (sc := defScope s_law) (by decide +kernel)) (fun _ _ _ _ _ => by exact (pg_tup (by rfl) (pgs_cons (pg_name (i := 12) sc_law.nd rfl (.inl rfl)) (pgs_cons (pg_name (i := 13) sc_law.nd rfl (.inl rfl)) (pgs_cons (pg_name (i := 14) sc_law.nd rfl (.inl rfl)) pgs_nil))))) (fun _ _ _ _ _ => by exact pts_nil) (fun _ _ _ _ _ => by exact (pv 13))) pa_nil)))
      (C8.pss_cut (ps_if (pt_cmpR op_eq (pe_cal c__law_draw hr (pa_cons (pv 7) (pa_cons pe_int pa_nil))) pe_int (nomark _)) (pss_one (ps_set (i := 9) sc_law.nd rfl (.inl rfl) (pe_callTy call_tuple_of (by rfl) z.tuple (by decide +kernel) (pa_cons (pe_lc (own := [("_law_form_here", 12), ("_law_word_here", 13), ("_law_at", 14)]) (g := gTup K 3 (gCons (gName 12) (gCons (gName 13) (gCons (gName 14) gNil)))) (tt := tYes) (te := (tCall sp2Word [] E0 (tCons (tOp (rIxL K) (tOp (rIxT K) (tVar 1) (tC (.int 0))) (tVar 12)) (tCons (tVar 7) tNil)))) (by rfl) sc_law.nd (pi_list (pe_ix ix_tup (pv 1) pe_int (fun _ _ => rfl))) (blkOk_by (own := [("_law_form_here", 12), ("_law_word_here", 13), ("_law_at", 14)]) (N := ["_law_script", "_law_net_here", "_law_made_here", "_law_rows", "_law_places", "_law_amiss_here", "_law_dues", "_law_well_here", "_law_states", "_law_state", "_law_cell", "_law_told", "_law_form_here", "_law_word_here", "_law_at"]) (sc := defScope s_law) (by decide +kernel)) (fun _ _ _ _ _ => by exact (pg_tup (by rfl) (pgs_cons (pg_name (i := 12) sc_law.nd rfl (.inl rfl)) (pgs_cons (pg_name (i := 13) sc_law.nd rfl (.inl rfl)) (pgs_cons (pg_name (i := 14) sc_law.nd rfl (.inl rfl)) pgs_nil))))) (fun _ _ _ _ _ => by exact pts_nil) (fun _ _ _ _ _ => by exact (pe_cal c__law_word hr (pa_cons (pe_ix ix_list (pe_ix ix_tup (pv 1) pe_int (fun _ _ => rfl)) (pv 12) (fun _ _ => rfl)) (pa_cons (pv 7) pa_nil))))) pa_nil)))) pss_nil)
      (pss_cons (ps_for PassesOwn.never rfl (pi_list (pe_op op_cat (pe_slice sl_list (pv 0) (po_some pe_int) (po_some pe_int)) (pe_lst (pa_cons pe_int (pa_cons pe_int pa_nil))))) (pg_name (i := 10) sc_law.nd rfl (.inl rfl)) (pss_cons (ps_expr (pe_bm PySem.F.plainAttrs_list PySem.F.slot_list_append PySem.F.type_list_append mt_append (pv 8) (pa_cons (pe_tup (pa_cons (pv 9) (pa_cons (pe_cal c__law_word hr (pa_cons (pe_ix ix_list (pe_ix ix_tup (pv 1) pe_int (fun _ _ => rfl)) (pe_ix ix_tup (pv 1) pe_int (fun _ _ => rfl)) (fun _ _ => rfl)) (pa_cons (pe_cal c__law_well hr (pa_cons (pv 10) pa_nil)) pa_nil))) pa_nil))) pa_nil)))
      (pss_one (ps_set (i := 9) sc_law.nd rfl (.inl rfl) (pe_ix ix_tup (pe_cal c_turned hr (pa_cons (pv 2) (pa_cons (pv 9) (pa_cons (pe_ix ix_tup (pe_ix ix_list (pv 8) (pe_un un_neg pe_int) (fun _ _ => rfl)) pe_int (fun _ _ => rfl)) pa_nil)))) pe_int (fun _ _ => rfl))))))
      (pss_cons (ps_set (i := 11) sc_law.nd rfl (.inl rfl) (pe_ix ix_tup (pe_calx c_without_times hr (pa_cons (pv 2) pa_nil)) pe_int (fun _ _ => rfl)))
      (pss_one (ps_ret (pe_and (pe_cal c__law_same hr (pa_cons (pv 2) (pa_cons (pv 11) (pa_cons (pv 4) (pa_cons (pv 8) pa_nil))))) (pe_one (pe_cmpR (op_eqG (rcG_ins okN ON.find ON.fn ON.b pass0) (hr.mono (by decide))) (pv 2) (pe_cal c__law_made hr (pa_cons (pv 1) pa_nil)) (nomark _)))))))))))))))))), ?_⟩
    refine ⟨_, rfl, as, ns, 0, rfl, hS, _, rfl, fun aw ha0 H1 s1 k1 => ⟨(by show 6 ≤ sizeLine; decide), fun wl hwl => ?_⟩⟩
    generalize hG2 : upd _ wl _ = G2
    obtain ⟨s2, h_wl⟩ := upd_gen hG2 hwl
    have nwa : wl ≠ aw := k1.ne hwl
    refine ⟨aw, wl, [some 3, some 8, some 16, some 30, some 64, none], 13, rfl, k1.same s2, h_wl, by decide, by decide, fun w hw => ?_, nwa, by decide, by decide, fun n pa H3 nok hfw f3 hst l40 sb3 hpa0 npa hpp6 => ?_⟩
    · intro y e
      subst e
      simp only [List.mem_cons, List.mem_nil_iff, or_false, Option.some.injEq, reduceCtorEq] at hw
      omega
    have s3 : Same H H3 := same_but (s1.trans s2) sb3 ha0
    have hpp := hpp6.x
    refine ⟨_, rfl, pa, n, rfl, hpp, nok, fun p1 H4 s4 hn => ?_⟩
    replace hpp := hpp.same s4
    have S4 := s3.trans s4
    clear s1 s2 s3 s4 sb3 k1 h_wl hwl nwa hpa0 npa ha0 hG2 hpp6
    obtain ⟨fa, ra, ha, tl0, hhp, ⟨fv, hfa, tf⟩, ⟨rv, hra, tr⟩, ⟨hv, hha, th⟩⟩ := id hpp
    refine ⟨_, rfl, pa, _, 2, .ref ra, rfl, rfl, SqT.of hhp, a2, ra, n, rv, rfl, hra, tr, nok, fun t0 rl pl H5 s5 h_t0 ho hpl => ?_⟩
    refine ⟨t0, _, rfl, SqT.of h_t0, rfl, _, _, rfl, _, _, rfl, rfl, ?_⟩
    have r60 := nok.r2
    have lF : (spread n.rows).1.length ≤ 130 * n.rows.length := by rw [← spread_all]; exact spread_many nok _ (Nat.le_refl _)
    refine ⟨fun σ G => ∃ am : V, σ = [some (.ref as), some (.ref pa), some (.ref p1), some (.ref rl), some (.ref pl), some am, none, none, none, none, none, none, none, none, none] ∧ Same H5 G ∧ ((am = .non ∧ ∀ p ∈ n.plain.pts, -200 ≤ p ∧ p ≤ 200) ∨ ∃ i, am = .int (i : Nat) ∧ FarAt n.plain.pts i), ?_, fun σ G hM => ?_⟩
    · obtain ⟨ov, hrl, tro⟩ := id ho
      refine ⟨_, rfl, _, rfl, pa, rl, n, ov, (spread n.rows).1, rfl, hpp.same s5, nok, hrl, tro, by omega, fun i r e => ?_, fun po G s => ?_, fun i far G s => ?_⟩
      · have h1 := spread_ok nok n.rows.length (Nat.le_refl _) i r
        have h2 := spread_plain nok n.rows.length (Nat.le_refl _) i r
        rw [spread_all] at h1 h2
        exact ⟨h1 e, h2 e⟩
      · exact ⟨_, rfl, s, .inl ⟨rfl, by rw [plain_pts]; exact po⟩⟩
      · exact ⟨_, rfl, s, .inr ⟨i, rfl, by rw [plain_pts]; exact far⟩⟩
    obtain ⟨am, rfl, sg, ham⟩ := hM
    obtain ⟨ov, hrl, tro⟩ := id ho
    have lov := tro.len
    rw [List.length_map] at lov
    have SG : Same H4 G := s5.trans sg
    have hrlG := sg _ _ hrl
    by_cases bad : 60 < (spread n.rows).1.length ∨ ∃ i, FarAt n.plain.pts i
    · obtain ⟨amd, dp, shd, shL1, shL2, Bx⟩ : ∃ amd : PyData, (∀ G : Hp, Dp K G am amd) ∧ SeqAt.shaped (refD amd) = true ∧ SeqAt.shaped (.list [refD .none, refD amd]) = true ∧ SeqAt.shaped (.list [refD amd]) = true ∧ ∀ x, Bad38 n x → x = am ∨ (60 < (spread n.rows).1.length ∧ x = .non) := by
        rcases ham with ⟨rfl, po⟩ | ⟨i, rfl, far⟩
        · refine ⟨.none, fun _ => .non, by decide +kernel, by decide +kernel, by decide +kernel, fun x bx => ?_⟩
          rcases bx with ⟨_, rfl⟩ | ⟨_, i, far, _⟩
          · exact .inl rfl
          · exact (far_no far po).elim
        · refine ⟨.int (i : Nat), fun _ => .int _, (by simp [refD, SeqAt.shaped, PyData.canLay0, PyData.depth, PyData.canLayAll0, PyData.depthAll]; decide +kernel), (by simp [refD, SeqAt.shaped, PyData.canLay0, PyData.depth, PyData.canLayAll0, PyData.depthAll]; decide +kernel), (by simp [refD, SeqAt.shaped, PyData.canLay0, PyData.depth, PyData.canLayAll0, PyData.depthAll]; decide +kernel), fun x bx => ?_⟩
          rcases bx with ⟨b, rfl⟩ | ⟨_, j, g, rfl⟩
          · exact .inr ⟨b, rfl⟩
          · exact .inl (by rw [far_one far g])
      by_cases c : 60 < (spread n.rows).1.length
      · refine ⟨_, rfl, rl, _, rfl, .inl (SqL.of hrlG), _, _, rfl, rfl, _, rfl, iteC (d := true) (decide_eq_true (by omega)) (iteT (iteT ?_))⟩
        · skip
          refine ⟨(by show 3 ≤ sizeLine; decide), fun t1 ht1 => ?_⟩
          generalize hG1 : upd _ t1 _ = G1
          obtain ⟨s1, h_t1⟩ := upd_gen hG1 ht1
          refine ⟨(by show 1 ≤ sizeLine; decide), fun l1 hl1 => ?_⟩
          generalize hG2 : upd _ l1 _ = G2
          obtain ⟨s2, h_l1⟩ := upd_gen hG2 hl1
          refine ⟨_, rfl, rl, _, rfl, .inl (SqL.of (s2 _ _ (s1 _ _ (sg _ _ hrl)))), _, _, rfl, rfl, .inr ⟨_, rfl, ?_⟩⟩
          have ek : (if decide ((60 : Int) < (ov.length : Int)) = true then (1 : Int) else 0) = 1 := if_pos (decide_eq_true (by omega))
          dsimp only
          rw [ek]
          refine ⟨l1, 1, _, rfl, rfl, h_l1, by decide, by decide, (by show 1 * 1 ≤ sizeLine; decide), fun rp hrp => ?_⟩
          generalize hG3 : upd _ rp _ = G3
          obtain ⟨s3, h_rp⟩ := upd_gen hG3 hrp
          replace h_rp : G3 rp = some (.lst [V.ref t1]) := h_rp
          refine ⟨_, rfl, (by show 3 ≤ sizeLine; decide), fun t2 ht2 => ?_⟩
          generalize hG4 : upd _ t2 _ = G4
          obtain ⟨s4, h_t2⟩ := upd_gen hG4 ht2
          refine ⟨(by show 1 ≤ sizeLine; decide), fun l2 hl2 => ?_⟩
          generalize hG5 : upd _ l2 _ = G5
          obtain ⟨s6, h_l2⟩ := upd_gen hG5 hl2
          refine ⟨rp, l2, _, _, rfl, rfl, s6 _ _ (s4 _ _ h_rp), h_l2, (by show 1 + 1 ≤ sizeLine; decide), fun l3 hl3 => ?_⟩
          generalize hG6 : upd _ l3 _ = G6
          obtain ⟨s7, h_l3⟩ := upd_gen hG6 hl3
          have U := (((s1.trans s2).trans s3).trans (s4.trans s6)).trans s7
          have h_t1' := s7 _ _ (s6 _ _ (s4 _ _ (s3 _ _ (s2 _ _ h_t1))))
          have h_t2' := s7 _ _ (s6 _ _ h_t2)
          have D3 : ∀ (G : Hp) (x : V) (d : PyData), Dp K G x d → DpAll K G [.bl true, .str "rows", x] [.bool true, .str "rows", d] := fun G x d h => .cons (.bl _) (.cons (.str _) (.cons h .nil))
          have IN : ∀ (x : V), Bad38 n x → ∃ xd : PyData, (∀ G : Hp, Dp K G x xd) ∧ SeqAt.shaped (refD xd) = true ∧ ([refD .none, refD amd]).any (fun z => z.eqv (refD xd)) = true := fun x bx => by
            rcases Bx x bx with rfl | ⟨b, rfl⟩
            · exact ⟨amd, dp, shd, List.any_eq_true.mpr ⟨refD amd, by simp, SeqAt.eqv_refl _ (SeqAt.canLay_of_shaped shd)⟩⟩
            · exact ⟨.none, fun _ => .non, by decide +kernel, List.any_eq_true.mpr ⟨refD .none, by simp, SeqAt.eqv_refl _ (SeqAt.canLay_of_shaped (by decide +kernel))⟩⟩
          have DL : ∀ G : Hp, Same G6 G → Dp K G (.ref l3) (.list ([refD .none, refD amd])) := fun G s => .lst (SqL.of (s _ _ h_l3)) (.cons (.tup (SqT.of (s _ _ h_t1')) (D3 _ _ _ .non)) (.cons (.tup (SqT.of (s _ _ h_t2')) (D3 _ _ _ (dp _))) .nil))
          refine ⟨_, rfl, p1, n, rfl, hn.same (SG.trans U), bad, fun x bx t7 G7 sx7 h_t7 => ?_⟩
          obtain ⟨xd, dxx, shx, anyx⟩ := IN x bx
          refine ⟨_, rfl, refD xd, [refD .none, refD amd], .tup (SqT.of h_t7) (D3 _ _ _ (dxx _)), DL _ sx7, shx, shL1, ?_⟩
          rw [anyx]
          refine ⟨_, rfl, _, rfl, p1, n, rfl, hn.same ((SG.trans U).trans sx7), bad, fun x2 bx2 t8 G8 sx8 h_t8 => ?_⟩
          obtain ⟨xd2, dxx2, shx2, anyx2⟩ := IN x2 bx2
          refine ⟨_, rfl, refD xd2, [refD .none, refD amd], .tup (SqT.of h_t8) (D3 _ _ _ (dxx2 _)), DL _ (sx7.trans sx8), shx2, shL1, ?_⟩
          rw [anyx2]
          have SZ := (SG.trans U).trans (sx7.trans sx8)
          refine ⟨_, rfl, _, rfl, _, rfl, pa, n, rfl, hpp.same SZ, nok, fun p2 G9 s9 hN2 => ?_⟩
          have hN1 := (hn.same SZ).same s9
          obtain ⟨_, dx1, _, _, _, _, _, _, _, b1⟩ := id hN1
          obtain ⟨_, dx2, _, _, _, _, _, _, _, b2⟩ := id hN2
          exact ⟨⟨p1, p2, dx1, dx2, _, _, rfl, rfl, b1.ob, b2.ob, n, hN1, hN2⟩, fun GB _ => q GB⟩
      · have amn : am ≠ .non := fun e => by
          rcases ham with ⟨_, po⟩ | ⟨i, e2, _⟩
          · rcases bad with b | ⟨i, far⟩
            · exact c b
            · exact far_no far po
          · rw [e] at e2
            cases e2
        refine ⟨_, rfl, rl, _, rfl, .inl (SqL.of hrlG), _, _, rfl, rfl, _, rfl, iteC (d := false) (decide_eq_false (by omega)) (iteF ⟨_, rfl, rfl, _, rfl, iteC (d := true) (congrArg (! ·) (decide_eq_false amn)) (iteT ?_)⟩)⟩
        · skip
          refine ⟨(by show 3 ≤ sizeLine; decide), fun t1 ht1 => ?_⟩
          generalize hG1 : upd _ t1 _ = G1
          obtain ⟨s1, h_t1⟩ := upd_gen hG1 ht1
          refine ⟨(by show 1 ≤ sizeLine; decide), fun l1 hl1 => ?_⟩
          generalize hG2 : upd _ l1 _ = G2
          obtain ⟨s2, h_l1⟩ := upd_gen hG2 hl1
          refine ⟨_, rfl, rl, _, rfl, .inl (SqL.of (s2 _ _ (s1 _ _ (sg _ _ hrl)))), _, _, rfl, rfl, .inr ⟨_, rfl, ?_⟩⟩
          have ek : (if decide ((60 : Int) < (ov.length : Int)) = true then (1 : Int) else 0) = 0 := if_neg (fun z => by have := of_decide_eq_true z; omega)
          dsimp only
          rw [ek]
          refine ⟨l1, 0, _, rfl, rfl, h_l1, by decide, by decide, (by show 1 * 0 ≤ sizeLine; decide), fun rp hrp => ?_⟩
          generalize hG3 : upd _ rp _ = G3
          obtain ⟨s3, h_rp⟩ := upd_gen hG3 hrp
          replace h_rp : G3 rp = some (.lst []) := h_rp
          refine ⟨_, rfl, (by show 3 ≤ sizeLine; decide), fun t2 ht2 => ?_⟩
          generalize hG4 : upd _ t2 _ = G4
          obtain ⟨s4, h_t2⟩ := upd_gen hG4 ht2
          refine ⟨(by show 1 ≤ sizeLine; decide), fun l2 hl2 => ?_⟩
          generalize hG5 : upd _ l2 _ = G5
          obtain ⟨s6, h_l2⟩ := upd_gen hG5 hl2
          refine ⟨rp, l2, _, _, rfl, rfl, s6 _ _ (s4 _ _ h_rp), h_l2, (by show 0 + 1 ≤ sizeLine; decide), fun l3 hl3 => ?_⟩
          generalize hG6 : upd _ l3 _ = G6
          obtain ⟨s7, h_l3⟩ := upd_gen hG6 hl3
          have U := (((s1.trans s2).trans s3).trans (s4.trans s6)).trans s7
          have h_t1' := s7 _ _ (s6 _ _ (s4 _ _ (s3 _ _ (s2 _ _ h_t1))))
          have h_t2' := s7 _ _ (s6 _ _ h_t2)
          have D3 : ∀ (G : Hp) (x : V) (d : PyData), Dp K G x d → DpAll K G [.bl true, .str "rows", x] [.bool true, .str "rows", d] := fun G x d h => .cons (.bl _) (.cons (.str _) (.cons h .nil))
          have IN : ∀ (x : V), Bad38 n x → ∃ xd : PyData, (∀ G : Hp, Dp K G x xd) ∧ SeqAt.shaped (refD xd) = true ∧ ([refD amd]).any (fun z => z.eqv (refD xd)) = true := fun x bx => by
            rcases Bx x bx with rfl | ⟨b, rfl⟩
            · exact ⟨amd, dp, shd, List.any_eq_true.mpr ⟨refD amd, by simp, SeqAt.eqv_refl _ (SeqAt.canLay_of_shaped shd)⟩⟩
            · omega
          have DL : ∀ G : Hp, Same G6 G → Dp K G (.ref l3) (.list ([refD amd])) := fun G s => .lst (SqL.of (s _ _ h_l3)) (.cons (.tup (SqT.of (s _ _ h_t2')) (D3 _ _ _ (dp _))) .nil)
          refine ⟨_, rfl, p1, n, rfl, hn.same (SG.trans U), bad, fun x bx t7 G7 sx7 h_t7 => ?_⟩
          obtain ⟨xd, dxx, shx, anyx⟩ := IN x bx
          refine ⟨_, rfl, refD xd, [refD amd], .tup (SqT.of h_t7) (D3 _ _ _ (dxx _)), DL _ sx7, shx, shL2, ?_⟩
          rw [anyx]
          refine ⟨_, rfl, _, rfl, p1, n, rfl, hn.same ((SG.trans U).trans sx7), bad, fun x2 bx2 t8 G8 sx8 h_t8 => ?_⟩
          obtain ⟨xd2, dxx2, shx2, anyx2⟩ := IN x2 bx2
          refine ⟨_, rfl, refD xd2, [refD amd], .tup (SqT.of h_t8) (D3 _ _ _ (dxx2 _)), DL _ (sx7.trans sx8), shx2, shL2, ?_⟩
          rw [anyx2]
          have SZ := (SG.trans U).trans (sx7.trans sx8)
          refine ⟨_, rfl, _, rfl, _, rfl, pa, n, rfl, hpp.same SZ, nok, fun p2 G9 s9 hN2 => ?_⟩
          have hN1 := (hn.same SZ).same s9
          obtain ⟨_, dx1, _, _, _, _, _, _, _, b1⟩ := id hN1
          obtain ⟨_, dx2, _, _, _, _, _, _, _, b2⟩ := id hN2
          exact ⟨⟨p1, p2, dx1, dx2, _, _, rfl, rfl, b1.ob, b2.ob, n, hN1, hN2⟩, fun GB _ => q GB⟩
    have l60 : (spread n.rows).1.length ≤ 60 := Nat.le_of_not_lt fun z => bad (.inl z)
    have po : ∀ p ∈ n.plain.pts, -200 ≤ p ∧ p ≤ 200 := (far_or _).resolve_right fun z => bad (.inr z)
    obtain rfl : am = .non := by
      rcases ham with ⟨e, _⟩ | ⟨i, _, far⟩
      · exact e
      · exact (far_no far po).elim
    refine ⟨_, rfl, rl, _, rfl, .inl (SqL.of hrlG), _, _, rfl, rfl, _, rfl, iteC (d := false) (decide_eq_false (by omega)) (iteF ⟨_, rfl, rfl, _, rfl, iteC (d := false) (congrArg (! ·) (decide_eq_true rfl)) (iteF ?_)⟩)⟩
    have hplG := sg _ _ hpl
    have troG := tro.same sg
    refine ⟨_, rfl, _, rfl, _, rfl, _, rfl, pa, p1, rl, pl, n, rfl, hpp.same SG, hn.same SG, ⟨ov, hrlG, troG⟩, hplG, l60, po, fun Ga ga => ⟨_, rfl, iteF ?_⟩⟩
    refine ⟨_, rfl, _, rfl, _, rfl, _, rfl, pa, p1, rl, pl, n, rfl, hpp.same (SG.trans ga), hn.same (SG.trans ga), ⟨ov, ga _ _ hrlG, troG.same ga⟩, ga _ _ hplG, l60, po, fun Gb gb => ⟨_, rfl, iteF ?_⟩⟩
    have SB := SG.trans (ga.trans gb)
    have hplB := (ga.trans gb) _ _ hplG
    clear ga gb hplG troG hrlG SG sg
    refine ⟨_, rfl, as, ns, 1, rfl, Same.sqL (S4.trans SB) hS, _, rfl, fun a ha0 H6 s6 k6 => ?_⟩
    refine ⟨(by show 0 ≤ sizeLine; decide), fun sl hsl0 => ?_⟩
    generalize hG7 : upd _ sl _ = G7
    obtain ⟨s7, h_sl⟩ := upd_gen hG7 hsl0
    have nsl : sl ≠ a := k6.ne hsl0
    have w7 := k6.same s7
    have S7 := SB.trans (s6.trans s7)
    have hpl7 := s7 _ _ (s6 _ _ hplB)
    have lh : hv.length = n.holds.length := by
      have := th.len
      rw [List.length_map] at this
      exact this
    have h6 := nok.h2
    refine ⟨_, rfl, pa, _, 3, .ref ha, rfl, rfl, SqT.of (S7 _ _ hhp), atI_nat (j := 3) rfl, ha, rfl, ⟨_, SqL.of (S7 _ _ hha)⟩, fun D hD => ?_⟩
    refine lc_it (walk_list (K := K) (a := ha) (xs := hv)) (fun i G => Same G7 G ∧ G D = some (.lst (((n.holds.take i).map (·.s)).map V.int))) ⟨same_new hD, upd_same⟩ (fun i G _ hP => SqL.of (hP.1 _ _ (S7 _ _ hha))) (fun i v G G' hj hP hY => ?_) (fun G hP => ?_)
    · obtain ⟨s8, hd⟩ := hP
      obtain ⟨rfl, e1⟩ := hY
      obtain ⟨hp, xs, rfl, ex, hhp2⟩ := th.get e1
      rw [List.getElem?_map] at ex
      obtain ⟨hh, eh, rfl⟩ := Option.map_eq_some_iff.mp ex
      refine ⟨hp, _, rfl, SqT.of (s8 _ _ (S7 _ _ hhp2)), rfl, _, _, rfl, _, _, rfl, _, _, rfl, rfl, rfl, _, rfl, _, hd, ?_, fun c o e => ?_, ?_⟩
      · rw [List.length_map, List.length_map, List.length_take]
        exact sl_lt (by omega)
      · rw [upd_ne (ne_of_none e hD)]
        exact s8 _ _ e
      · rw [upd_same, List.take_add_one, eh, List.map_append, List.map_append]
        rfl
    obtain ⟨s8, hd⟩ := hP
    rw [lh, List.take_length] at hd
    refine ⟨D, _, rfl, .inl ⟨SqL.of hd, fun sa hsa0 => ?_⟩⟩
    generalize hGs : upd _ sa _ = G8
    obtain ⟨s9, h_sa⟩ := upd_gen hGs hsa0
    have st0 : ∀ k ∈ n.holds.map (·.s), k.natAbs < 2 ^ 110 := fun k hk => by
      obtain ⟨hh, hm, rfl⟩ := List.mem_map.mp hk
      exact hst hh hm
    have T8 := s8.trans s9
    have w8 := w7.same T8
    have S8 := S7.trans T8
    have slB : Gb sl = none := s6.free hsl0
    have SB8 : Same Gb G8 := s6.trans (s7.trans T8)
    have h_sl8 := T8 _ _ h_sl
    refine ⟨fun σ G => ∃ (sa : Addr) (st : List Int), σ = [some (.ref as), some (.ref pa), some (.ref p1), some (.ref rl), some (.ref pl), some .non, none, some (.ref a), some (.ref sl), some (.ref sa), none, none, none, none, none] ∧ Same Gb G ∧ G sl = some (.lst []) ∧ G sa = some (.tup (st.map V.int)) ∧ StOk n st ∧ ∀ k ∈ st, k.natAbs < 2 ^ 110, ?_, fun σ G hM => ?_⟩
    · refine ⟨_, rfl, a, 0, 2, rfl, w8, by decide, by decide, by decide +kernel, fun r2 G9 r20 r21 d2 _ w9 => ⟨rfl, _, rfl, ite2 (fun _ => ?_) (fun _ => ?_)⟩⟩
      · have SG9 := same_but SB8 d2 ha0
        have SQ := SB.trans SG9
        refine ⟨_, rfl, pa, _, 3, .ref ha, rfl, rfl, SqT.of (SQ _ _ hhp), atI_nat (j := 3) rfl, ha, rfl, ⟨_, SqL.of (SQ _ _ hha)⟩, fun D2 hD2 => ?_⟩
        have nD2 : D2 ≠ a := w9.ne hD2
        have ffD : Gb D2 = none := SG9.free hD2
        refine lc_it (walk_list (K := K) (a := ha) (xs := hv)) (fun i G => Same Gb G ∧ WellAt G a (1 + 3 * i) ∧ G sl = some (.lst []) ∧ ∃ ws : List Int, G D2 = some (.lst (ws.map V.int)) ∧ ws.length = i ∧ ∀ (j : Nat) (h2 : Hold) (k : Int), n.holds[j]? = some h2 → ws[j]? = some k → inR (frm n.fs h2.k).w k = true ∧ k.natAbs < 2 ^ 110) ⟨SG9.trans (same_new hD2), (w9.same (same_new hD2)).mono (by omega), same_new hD2 _ _ (d2 _ _ nsl h_sl8), [], upd_same, rfl, (fun j h2 k e1 e2 => by cases e2)⟩ (fun i G _ hP => SqL.of ((SB.trans hP.1) _ _ hha)) (fun i v G G' hj hP hY => ?_) (fun G hP => ?_)
        · obtain ⟨sg, wg, hsg, ws, hd2, lws, hws⟩ := hP
          obtain ⟨rfl, e1⟩ := hY
          obtain ⟨hp, xs, rfl, ex, hhp2⟩ := th.get e1
          rw [List.getElem?_map] at ex
          obtain ⟨hh, eh, rfl⟩ := Option.map_eq_some_iff.mp ex
          have hk := (nok.ho hh (List.mem_of_getElem? eh)).1
          have efr := frm_get hk
          obtain ⟨fp, ep, hfp⟩ := tf.at (i := hh.k) (xs := (frm n.fs hh.k).vs) (by rw [List.getElem?_map, efr]; rfl)
          have SQ2 := SB.trans sg
          obtain ⟨gx, hgx⟩ := wg.lst
          refine ⟨hp, _, rfl, SqT.of (SQ2 _ _ hhp2), rfl, _, _, rfl, _, _, rfl, _, _, rfl, rfl, rfl, _, rfl, pa, _, 0, .ref fa, rfl, rfl, SqT.of (SQ2 _ _ hhp), a0, _, rfl, fa, _, _, .ref fp, rfl, rfl, SqL.of (SQ2 _ _ hfa), atI_nat ep, _, rfl, ?_⟩
          refine ⟨a, fp, frm n.fs hh.k, 1 + 3 * (i : Int), rfl, SQ2 _ _ hfp, nok.fo _ (List.mem_of_getElem? efr), wg, by omega, by omega, fun x J2 xin xz sbb w3 => ?_⟩
          have hd3 := sbb _ _ nD2 hd2
          have nsD : sl ≠ D2 := ne_of_none (d2 _ _ nsl h_sl8) hD2
          refine ⟨_, hd3, sl_lt (by rw [List.length_map]; omega), fun b o e => ?_, (w3.but SameBut.upd nD2.symm).mono (by omega), ?_, ws ++ [x], ?_, by rw [List.length_append, lws]; rfl, fun j h2 k e1 e2 => ?_⟩
          · rw [upd_ne (ne_of_none e ffD)]
            exact same_but sg sbb ha0 _ _ e
          · rw [upd_ne nsD]
            exact sbb _ _ nsl hsg
          · rw [upd_same, List.map_append]
            rfl
          · by_cases c : j < ws.length
            · rw [List.getElem?_append_left c] at e2
              exact hws j h2 k e1 e2
            · have jl := (List.getElem?_eq_some_iff.mp e2).1
              rw [List.length_append, List.length_singleton] at jl
              have ji : j = i := by omega
              rw [List.getElem?_append_right (by omega), show j - ws.length = 0 by omega] at e2
              cases e2
              rw [ji, eh] at e1
              cases e1
              exact ⟨xin, xz⟩
        obtain ⟨sg, wg, hsg, ws, hd2, lws, hws⟩ := hP
        rw [lh] at lws
        refine ⟨D2, _, rfl, .inl ⟨SqL.of hd2, fun sa2 hsa2 => ?_⟩⟩
        have sN := same_new (o := .tup (ws.map V.int)) hsa2
        refine ⟨sa2, ws, rfl, sg.trans sN, sN _ _ hsg, upd_same, ⟨lws, fun j h2 k e1 e2 => (hws j h2 k e1 e2).1⟩, fun k hk => ?_⟩
        obtain ⟨j, ej⟩ := List.getElem?_of_mem hk
        have jl := (List.getElem?_eq_some_iff.mp ej).1
        exact (hws j _ k (List.getElem?_eq_getElem (show j < n.holds.length by omega)) ej).2
      · exact ⟨sa, _, rfl, same_but SB8 d2 ha0, d2 _ _ nsl h_sl8, d2 _ _ (fun e => by rw [e] at h_sa; obtain ⟨_, _, _, hx, _⟩ := w8; rw [hx] at h_sa; cases h_sa) h_sa, StOk.start nok, st0⟩
    obtain ⟨sa0, st1, rfl, SG, h_sl0, h_sa0, so1, sz1⟩ := hM
    clear h_sl8 SB8 S8 w8 T8 h_sa st0 hd s8 s9 hGs hsa0
    obtain ⟨cl8, clI⟩ := cut_cells38 (ns := ns)
    have okP : NetOk n.plain := (plain_pre nok).full l60 po
    refine ⟨_, rfl, _, rfl, _, rfl, as, _, rfl, Same.sqL (S4.trans (SB.trans SG)) hS, fun cs hcs => ?_⟩
    generalize hGc : upd _ cs _ = G1
    obtain ⟨s9, h_cs⟩ := upd_gen hGc hcs
    refine ⟨(by show 2 ≤ sizeLine; decide), fun l3 hl3 => ?_⟩
    generalize hG5 : upd _ l3 _ = G2
    obtain ⟨s10, h_l3⟩ := upd_gen hG5 hl3
    refine ⟨cs, l3, _, _, rfl, rfl, s10 _ _ h_cs, h_l3, Nat.le_of_lt (sl_lt (show _ + 2 ≤ 100000 by omega)), fun l4 hl4 => ?_⟩
    generalize hGl : upd _ l4 _ = G3
    obtain ⟨s11, h_l4⟩ := upd_gen hGl hl4
    have T11 := (s9.trans s10).trans s11
    have S3 := SG.trans T11
    have h_sl3 := T11 _ _ h_sl0
    have h_sa3 := T11 _ _ h_sa0
    have nls : l4 ≠ sl := fun e => by
      have := (s9.trans s10) _ _ h_sl0
      rw [← e, hl4] at this
      cases this
    have ALL : ∀ v ∈ cutV (ns.map V.int) (some 2) (some 10) ++ [V.int 0, V.int 1], ∃ c : Int, v = .int c := fun v hv => by
      rcases List.mem_append.mp hv with hv | hv
      · exact clI v hv
      · simp only [List.mem_cons, List.mem_nil_iff, or_false] at hv
        rcases hv with rfl | rfl <;> exact ⟨_, rfl⟩
    have len10 : (cutV (ns.map V.int) (some 2) (some 10) ++ [V.int 0, V.int 1]).length ≤ 10 := by
      rw [List.length_append]
      show _ + 2 ≤ 10
      omega
    generalize cutV (ns.map V.int) (some 2) (some 10) ++ [V.int 0, V.int 1] = cells at *
    clear s9 s10 s11 h_cs h_l3 clI cl8 T11 hcs hl3 hl4 hGc hG5 hGl
    have efr := frm_get nok.en
    obtain ⟨fp, ep, hfp⟩ := tf.at (i := n.en) (xs := (frm n.fs n.en).vs) (by rw [List.getElem?_map, efr]; rfl)
    have fo : (frm n.fs n.en).Ok := nok.fo _ (List.mem_of_getElem? efr)
    refine ⟨l4, rfl, ⟨_, SqL.of h_l4⟩, ?_⟩
    refine for_it (walk_list (K := K) (a := l4) (xs := cells)) (fun i σ G => ∃ (sa : Addr) (st : List Int) (sv : List V) (es : List (List Int × Int)) (y10 : Option V), σ = [some (.ref as), some (.ref pa), some (.ref p1), some (.ref rl), some (.ref pl), some .non, none, some (.ref a), some (.ref sl), some (.ref sa), y10, none, none, none, none] ∧ Same Gb G ∧ G l4 = some (.lst cells) ∧ G sl = some (.lst sv) ∧ StatesAt G sv es ∧ es.length = i ∧ (∀ e ∈ es, StOk n e.1 ∧ inR (frm n.fs n.en).w e.2 = true ∧ NumOk n e.2 e.1 ∧ NumOk n.plain e.2 e.1) ∧ G sa = some (.tup (st.map V.int)) ∧ StOk n st ∧ ∀ k ∈ st, k.natAbs < 2 ^ (110 + 24000 * i)) ⟨sa0, st1, [], [], none, rfl, S3, h_l4, h_sl3, ⟨rfl, fun i v e => by cases e⟩, rfl, (fun e he => nomatch he), h_sa3, so1, fun k hk => up (sz1 k hk) (by omega)⟩ (fun i σ G _ hP => by obtain ⟨_, _, _, _, _, rfl, _, h, _⟩ := hP; exact SqL.of h) (fun i v σ G G' hi hP hY => ?_) (fun σ G hP => ?_)
    · obtain ⟨sa, st, sv, es, y10, rfl, sg, hl4g, hslg, stv, les, eok, hsa, so, sz⟩ := hP
      obtain ⟨rfl, hx⟩ := hY
      obtain ⟨c, rfl⟩ := ALL v (List.mem_of_getElem? hx)
      have SQ := SB.trans sg
      have lsv := stv.1
      refine ⟨_, rfl, .inl ⟨rfl, _, SqL.of hslg⟩, _, rfl, _, rfl, pa, _, 0, .ref fa, rfl, rfl, SqT.of (SQ _ _ hhp), a0, _, rfl, pa, _, 1, .int n.en, rfl, rfl, SqT.of (SQ _ _ hhp), a1, fa, _, _, .ref fp, rfl, rfl, SqL.of (SQ _ _ hfa), atI_nat ep, _, rfl, c, rfl, fun w2 hw2 J1 q1 k1 => ?_⟩
      refine ⟨w2, fp, frm n.fs n.en, 0, rfl, q1 _ _ (SQ _ _ hfp), fo, k1, by decide, by decide, fun x J2 xin xz sbb w3 => ?_⟩
      have q2 : Same G' J2 := same_but q1 sbb hw2
      refine ⟨(by show 2 ≤ sizeLine; decide), fun t2 ht2 => ?_⟩
      generalize hGt : upd _ t2 _ = J3
      obtain ⟨q3, h_t2⟩ := upd_gen hGt ht2
      have q4 := q2.trans q3
      have hsl3' := q4 _ _ hslg
      refine ⟨sl, _, _, rfl, rfl, hsl3', sl_lt (by omega), ?_⟩
      generalize hGs : upd _ sl _ = J4
      have h_sl4 : J4 sl = some (.lst (sv ++ [.ref t2])) := by rw [← hGs]; exact upd_same
      have b4 : SameBut sl J3 J4 := fun b o nb e => by
        rw [← hGs, upd_ne nb]
        exact e
      have sg4 : Same Gb J4 := fun b o e => b4 _ _ (ne_of_none e slB) (q4 _ _ (sg _ _ e))
      have nst : sa ≠ sl := ne_of hsa hslg (fun z => nomatch z)
      have hsa4 := b4 _ _ nst (q4 _ _ hsa)
      have ht4 := b4 _ _ (ne_of h_t2 hsl3' (fun z => nomatch z)) h_t2
      have stv4 : StatesAt J4 (sv ++ [.ref t2]) (es ++ [(st, x)]) := by
        refine ⟨by rw [List.length_append, List.length_append, lsv]; rfl, fun j v ev => ?_⟩
        by_cases cj : j < sv.length
        · rw [List.getElem?_append_left cj] at ev
          obtain ⟨tt, ss, e, e1, e2, e3, e4⟩ := (stv.same q4).2 j v ev
          exact ⟨tt, ss, e, e1, by rw [List.getElem?_append_left (by omega)]; exact e2, b4 _ _ (ne_of e3 hsl3' (fun z => nomatch z)) e3, b4 _ _ (ne_of e4 hsl3' (fun z => nomatch z)) e4⟩
        · have jl := (List.getElem?_eq_some_iff.mp ev).1
          rw [List.length_append, List.length_singleton] at jl
          rw [List.getElem?_append_right (by omega), show j - sv.length = 0 by omega] at ev
          cases ev
          exact ⟨t2, sa, (st, x), rfl, by rw [List.getElem?_append_right (by omega), show j - es.length = 0 by omega]; rfl, ht4, hsa4⟩
      have il : i < 10 := by omega
      have nb1 := nums_bd nok (s := 110 + 24000 * i) (by omega) xz sz n.rows.length (Nat.le_refl _)
      have nk : NumOk n x st := fun k hk => up (nb1 k (by rw [List.take_length]; exact hk)) (by omega)
      have nb2 := nums_bd okP (s := 110 + 24000 * i) (by omega) xz sz n.plain.rows.length (Nat.le_refl _)
      have rP : n.plain.rows.length ≤ 60 := l60
      have nkP : NumOk n.plain x st := fun k hk => up (nb2 k (by rw [List.take_length]; exact hk)) (by omega)
      have lastS : atI (sv ++ [V.ref t2]) (-1) = some (.ref t2) := by
        unfold atI
        rw [List.length_append, List.length_singleton, ixN_last (by omega)]
        show (sv ++ [V.ref t2])[sv.length + 1 - 1]? = _
        rw [Nat.add_sub_cancel, List.getElem?_append_right (Nat.le_refl _), Nat.sub_self]
        rfl
      have SQ4 := SB.trans sg4
      refine ⟨_, rfl, _, rfl, _, rfl, _, rfl, sl, _, -1, .ref t2, rfl, rfl, SqL.of h_sl4, lastS, t2, _, 1, .int x, rfl, rfl, SqT.of ht4, a1, p1, sa, n, x, st, rfl, hn.same SQ4, hsa4, so, xin, nk, fun t l s2 J5 q5 ht0 hl0 hs0 h_t h_l h_s => ⟨t, _, 1, .ref s2, rfl, rfl, SqT.of h_t, a1, ?_⟩⟩
      refine ⟨s2, n.behind (n.nums x st), _, _, _, rfl, sg4.trans q5, q5 _ _ (b4 _ _ nls (q4 _ _ hl4g)), q5 _ _ h_sl4, stv4.same q5, by rw [List.length_append, les]; rfl, fun e he => ?_, h_s, behind_ok nok x st, fun k hk => ?_⟩
      · rcases List.mem_append.mp he with he | he
        · exact eok e he
        · rw [List.mem_singleton.mp he]
          exact ⟨so, xin, nk, nkP⟩
      · obtain ⟨hh, _, rfl⟩ : ∃ h ∈ n.holds, k = (n.nums x st).getD h.l 0 := by
          unfold NetP.behind at hk
          obtain ⟨h, hm, e⟩ := List.mem_map.mp hk
          exact ⟨h, hm, e.symm⟩
        exact up (getD_lt (all_take nb1) (Nat.pow_pos (by decide))) (by omega)
    obtain ⟨sa, st, sv, es, y10, rfl, sg, _, hslg, stv, les, eok, _⟩ := hP
    have SQ := SB.trans sg
    refine ⟨_, rfl, p1, n, rfl, hn.same SQ, fun _ _ t q1 pl2 G9 s12 h_t hq h_pl2 => ?_, fun big => by omega, fun _ i far => (far_no far po).elim⟩
    refine ⟨t, _, 0, .ref q1, rfl, rfl, SqT.of h_t, a0, ?_⟩
    have hplG9 := s12 _ _ (sg _ _ hplB)
    refine ⟨_, rfl, _, rfl, _, rfl, _, rfl, p1, q1, pl, sl, n, es, rfl, (hn.same SQ).same s12, hq, hplG9, ⟨sv, s12 _ _ hslg, stv.same s12⟩, ⟨by omega, eok⟩, trivial, fun Gz sz => ⟨_, rfl, ?_⟩⟩
    have SZ := (SQ.trans s12).trans sz
    refine ⟨_, rfl, _, rfl, pa, n, rfl, hpp.same SZ, nok, fun p2 Gy s14 hN2 => ?_⟩
    have hN1 := (hn.same SZ).same s14
    obtain ⟨_, dx1, _, _, _, _, _, _, _, b1⟩ := id hN1
    obtain ⟨_, dx2, _, _, _, _, _, _, _, b2⟩ := id hN2
    exact ⟨⟨p1, p2, dx1, dx2, _, _, rfl, rfl, b1.ob, b2.ob, n, hN1, hN2⟩, fun GB _ => q GB⟩
end
end E1

namespace E1
open PySem PySem.Spec PyProof.Rows L2
theorem all_mk {l : PySem.W.OpenLaw} {w : World} {K : PySem.W.Frag} {h : Heap} {mg : Str → Option Value} {fa : Addr} {C : Addr} {CN : Addr} {CE : Addr} {CB : Addr} {A_ENDS : Addr} {A_MANNERS : Addr} {A_POINT_RULES : Addr} {A_ROW_LENGTHS : Addr} (e_C : He.ga K "Form" = C) (e_CN : He.ga K "Net" = CN) (e_CE : He.ga K "EchoError" = CE) (e_CB : He.ga K "BadNet" = CB) (e_A_ENDS : He.ga K "ENDS" = A_ENDS) (e_A_MANNERS : He.ga K "MANNERS" = A_MANNERS) (e_A_POINT_RULES : He.ga K "POINT_RULES" = A_POINT_RULES) (e_A_ROW_LENGTHS : He.ga K "ROW_LENGTHS" = A_ROW_LENGTHS) (X : K.In h) (G : h.Ns mainGlobals mg) (hfa : mg "law" = some (.ref fa)) (hfile : (l.prog.main.file : Str) = "/claim/cut.py") (htop : (l.prog.main.scope.names.lookup ("super" : Str)).isSome = false) (c : SaysY FA FN TS EXB ER w K) :
    ∃ fd : FuncData, (∀ (s : Shared) (v : Value), BindsTo s fd ⟨[v], []⟩ [("_law_script", v)]) ∧ ∀ base : Heap, K.In base → base.Ns mainGlobals mg → FnOk l.prog w K mg base CX0 11 fa fd ["_law_script"] (spLaw K) := by
  obtain ⟨fd_is_whole, F0_is_whole⟩ := c.t.d.def_ 0 (d := dd_is_whole) rfl
  have F_is_whole : Fun K "is_whole" "is_whole" s_is_whole (He.ga K "is_whole") fd_is_whole := fun_of F0_is_whole
  have k_is_whole := F_is_whole.kp
  have a_is_whole : PySem.W.nsIn K mainGlobals "is_whole" = some (some (.ref (He.ga K "is_whole"))) := He.eqO_ok (c.t.d.fact 0 (f := .glo "is_whole") rfl)
  have b_is_whole := F_is_whole.binds (ps := ["thing"]) fun _ _ _ _ _ _ us hl => match us, hl with | [_], _ => rfl
  obtain ⟨fd_downward, F0_downward⟩ := c.t.d.def_ 1 (d := dd_downward) rfl
  have F_downward : Fun K "downward" "downward" s_downward (He.ga K "downward") fd_downward := fun_of F0_downward
  have k_downward := F_downward.kp
  have a_downward : PySem.W.nsIn K mainGlobals "downward" = some (some (.ref (He.ga K "downward"))) := He.eqO_ok (c.t.d.fact 1 (f := .glo "downward") rfl)
  have b_downward := F_downward.binds (ps := ["top", "bottom"]) fun _ _ _ _ _ _ us hl => match us, hl with | [_, _], _ => rfl
  obtain ⟨fd_upward, F0_upward⟩ := c.t.d.def_ 2 (d := dd_upward) rfl
  have F_upward : Fun K "upward" "upward" s_upward (He.ga K "upward") fd_upward := fun_of F0_upward
  have k_upward := F_upward.kp
  have a_upward : PySem.W.nsIn K mainGlobals "upward" = some (some (.ref (He.ga K "upward"))) := He.eqO_ok (c.t.d.fact 2 (f := .glo "upward") rfl)
  have b_upward := F_upward.binds (ps := ["top", "bottom"]) fun _ _ _ _ _ _ us hl => match us, hl with | [_, _], _ => rfl
  obtain ⟨fd_inward, F0_inward⟩ := c.t.d.def_ 3 (d := dd_inward) rfl
  have F_inward : Fun K "inward" "inward" s_inward (He.ga K "inward") fd_inward := fun_of F0_inward
  have k_inward := F_inward.kp
  have a_inward : PySem.W.nsIn K mainGlobals "inward" = some (some (.ref (He.ga K "inward"))) := He.eqO_ok (c.t.d.fact 3 (f := .glo "inward") rfl)
  have b_inward := F_inward.binds (ps := ["top", "bottom"]) fun _ _ _ _ _ _ us hl => match us, hl with | [_, _], _ => rfl
  obtain ⟨fd_outward, F0_outward⟩ := c.t.d.def_ 4 (d := dd_outward) rfl
  have F_outward : Fun K "outward" "outward" s_outward (He.ga K "outward") fd_outward := fun_of F0_outward
  have k_outward := F_outward.kp
  have a_outward : PySem.W.nsIn K mainGlobals "outward" = some (some (.ref (He.ga K "outward"))) := He.eqO_ok (c.t.d.fact 4 (f := .glo "outward") rfl)
  have b_outward := F_outward.binds (ps := ["top", "bottom"]) fun _ _ _ _ _ _ us hl => match us, hl with | [_, _], _ => rfl
  obtain ⟨fd_nearest_greater, F0_nearest_greater⟩ := c.t.d.def_ 5 (d := dd_nearest_greater) rfl
  have F_nearest_greater : Fun K "nearest_greater" "nearest_greater" s_nearest_greater (He.ga K "nearest_greater") fd_nearest_greater := fun_of F0_nearest_greater
  have k_nearest_greater := F_nearest_greater.kp
  have a_nearest_greater : PySem.W.nsIn K mainGlobals "nearest_greater" = some (some (.ref (He.ga K "nearest_greater"))) := He.eqO_ok (c.t.d.fact 5 (f := .glo "nearest_greater") rfl)
  have b_nearest_greater := F_nearest_greater.binds (ps := ["top", "bottom"]) fun _ _ _ _ _ _ us hl => match us, hl with | [_, _], _ => rfl
  obtain ⟨fd_nearest_even, F0_nearest_even⟩ := c.t.d.def_ 6 (d := dd_nearest_even) rfl
  have F_nearest_even : Fun K "nearest_even" "nearest_even" s_nearest_even (He.ga K "nearest_even") fd_nearest_even := fun_of F0_nearest_even
  have k_nearest_even := F_nearest_even.kp
  have a_nearest_even : PySem.W.nsIn K mainGlobals "nearest_even" = some (some (.ref (He.ga K "nearest_even"))) := He.eqO_ok (c.t.d.fact 6 (f := .glo "nearest_even") rfl)
  have b_nearest_even := F_nearest_even.binds (ps := ["top", "bottom"]) fun _ _ _ _ _ _ us hl => match us, hl with | [_, _], _ => rfl
  obtain ⟨fd_nearest_far, F0_nearest_far⟩ := c.t.d.def_ 7 (d := dd_nearest_far) rfl
  have F_nearest_far : Fun K "nearest_far" "nearest_far" s_nearest_far (He.ga K "nearest_far") fd_nearest_far := fun_of F0_nearest_far
  have k_nearest_far := F_nearest_far.kp
  have a_nearest_far : PySem.W.nsIn K mainGlobals "nearest_far" = some (some (.ref (He.ga K "nearest_far"))) := He.eqO_ok (c.t.d.fact 7 (f := .glo "nearest_far") rfl)
  have b_nearest_far := F_nearest_far.binds (ps := ["top", "bottom"]) fun _ _ _ _ _ _ us hl => match us, hl with | [_, _], _ => rfl
  obtain ⟨fd_is_manner, F0_is_manner⟩ := c.t.d.def_ 8 (d := dd_is_manner) rfl
  have F_is_manner : Fun K "is_manner" "is_manner" s_is_manner (He.ga K "is_manner") fd_is_manner := fun_of F0_is_manner
  have k_is_manner := F_is_manner.kp
  have a_is_manner : PySem.W.nsIn K mainGlobals "is_manner" = some (some (.ref (He.ga K "is_manner"))) := He.eqO_ok (c.t.d.fact 8 (f := .glo "is_manner") rfl)
  have b_is_manner := F_is_manner.binds (ps := ["thing"]) fun _ _ _ _ _ _ us hl => match us, hl with | [_], _ => rfl
  obtain ⟨fd_rounded, F0_rounded⟩ := c.t.d.def_ 9 (d := dd_rounded) rfl
  have F_rounded : FunD K "rounded" "rounded" (defArgs s_rounded) (defBody s_rounded) (defScope s_rounded) [V.str "half"] [] (He.ga K "rounded") fd_rounded := F0_rounded
  have k_rounded := F_rounded.kp
  have a_rounded : PySem.W.nsIn K mainGlobals "rounded" = some (some (.ref (He.ga K "rounded"))) := He.eqO_ok (c.t.d.fact 9 (f := .glo "rounded") rfl)
  obtain ⟨ds_rounded, dv_rounded, b_rounded⟩ := F_rounded.binds1 (ps := ["value", "manner"]) 2 1 (by simp) rfl fun _ _ _ _ _ _ _ us its h1 h2 => match us, its, h1, h2 with | [_, _], [_], _, _ => ⟨_, rfl, rfl⟩
  cases dv_rounded
  obtain ⟨fd_is_width, F0_is_width⟩ := c.t.d.def_ 10 (d := dd_is_width) rfl
  have F_is_width : Fun K "is_width" "is_width" s_is_width (He.ga K "is_width") fd_is_width := fun_of F0_is_width
  have k_is_width := F_is_width.kp
  have a_is_width : PySem.W.nsIn K mainGlobals "is_width" = some (some (.ref (He.ga K "is_width"))) := He.eqO_ok (c.t.d.fact 10 (f := .glo "is_width") rfl)
  have b_is_width := F_is_width.binds (ps := ["thing"]) fun _ _ _ _ _ _ us hl => match us, hl with | [_], _ => rfl
  obtain ⟨fd_is_point, F0_is_point⟩ := c.t.d.def_ 11 (d := dd_is_point) rfl
  have F_is_point : Fun K "is_point" "is_point" s_is_point (He.ga K "is_point") fd_is_point := fun_of F0_is_point
  have k_is_point := F_is_point.kp
  have a_is_point : PySem.W.nsIn K mainGlobals "is_point" = some (some (.ref (He.ga K "is_point"))) := He.eqO_ok (c.t.d.fact 11 (f := .glo "is_point") rfl)
  have b_is_point := F_is_point.binds (ps := ["thing"]) fun _ _ _ _ _ _ us hl => match us, hl with | [_], _ => rfl
  obtain ⟨fd_is_ends, F0_is_ends⟩ := c.t.d.def_ 12 (d := dd_is_ends) rfl
  have F_is_ends : Fun K "is_ends" "is_ends" s_is_ends (He.ga K "is_ends") fd_is_ends := fun_of F0_is_ends
  have k_is_ends := F_is_ends.kp
  have a_is_ends : PySem.W.nsIn K mainGlobals "is_ends" = some (some (.ref (He.ga K "is_ends"))) := He.eqO_ok (c.t.d.fact 12 (f := .glo "is_ends") rfl)
  have b_is_ends := F_is_ends.binds (ps := ["thing"]) fun _ _ _ _ _ _ us hl => match us, hl with | [_], _ => rfl
  obtain ⟨fd_is_place, F0_is_place⟩ := c.t.d.def_ 13 (d := dd_is_place) rfl
  have F_is_place : Fun K "is_place" "is_place" s_is_place (He.ga K "is_place") fd_is_place := fun_of F0_is_place
  have k_is_place := F_is_place.kp
  have a_is_place : PySem.W.nsIn K mainGlobals "is_place" = some (some (.ref (He.ga K "is_place"))) := He.eqO_ok (c.t.d.fact 13 (f := .glo "is_place") rfl)
  have b_is_place := F_is_place.binds (ps := ["thing", "many"]) fun _ _ _ _ _ _ us hl => match us, hl with | [_, _], _ => rfl
  obtain ⟨fd_is_factor, F0_is_factor⟩ := c.t.d.def_ 14 (d := dd_is_factor) rfl
  have F_is_factor : Fun K "is_factor" "is_factor" s_is_factor (He.ga K "is_factor") fd_is_factor := fun_of F0_is_factor
  have k_is_factor := F_is_factor.kp
  have a_is_factor : PySem.W.nsIn K mainGlobals "is_factor" = some (some (.ref (He.ga K "is_factor"))) := He.eqO_ok (c.t.d.fact 14 (f := .glo "is_factor") rfl)
  have b_is_factor := F_is_factor.binds (ps := ["thing"]) fun _ _ _ _ _ _ us hl => match us, hl with | [_], _ => rfl
  obtain ⟨fd_in_point, F0_in_point⟩ := c.t.d.def_ 15 (d := dd_in_point) rfl
  have F_in_point : Fun K "in_point" "in_point" s_in_point (He.ga K "in_point") fd_in_point := fun_of F0_in_point
  have k_in_point := F_in_point.kp
  have a_in_point : PySem.W.nsIn K mainGlobals "in_point" = some (some (.ref (He.ga K "in_point"))) := He.eqO_ok (c.t.d.fact 15 (f := .glo "in_point") rfl)
  have b_in_point := F_in_point.binds (ps := ["row", "points", "given"]) fun _ _ _ _ _ _ us hl => match us, hl with | [_, _, _], _ => rfl
  obtain ⟨fd_old_point, F0_old_point⟩ := c.t.d.def_ 16 (d := dd_old_point) rfl
  have F_old_point : Fun K "old_point" "old_point" s_old_point (He.ga K "old_point") fd_old_point := fun_of F0_old_point
  have k_old_point := F_old_point.kp
  have a_old_point : PySem.W.nsIn K mainGlobals "old_point" = some (some (.ref (He.ga K "old_point"))) := He.eqO_ok (c.t.d.fact 16 (f := .glo "old_point") rfl)
  have b_old_point := F_old_point.binds (ps := ["row", "points", "given"]) fun _ _ _ _ _ _ us hl => match us, hl with | [_, _, _], _ => rfl
  obtain ⟨fd_times_point, F0_times_point⟩ := c.t.d.def_ 17 (d := dd_times_point) rfl
  have F_times_point : Fun K "times_point" "times_point" s_times_point (He.ga K "times_point") fd_times_point := fun_of F0_times_point
  have k_times_point := F_times_point.kp
  have a_times_point : PySem.W.nsIn K mainGlobals "times_point" = some (some (.ref (He.ga K "times_point"))) := He.eqO_ok (c.t.d.fact 17 (f := .glo "times_point") rfl)
  have b_times_point := F_times_point.binds (ps := ["row", "points", "given"]) fun _ _ _ _ _ _ us hl => match us, hl with | [_, _, _], _ => rfl
  obtain ⟨fd_sum_point, F0_sum_point⟩ := c.t.d.def_ 18 (d := dd_sum_point) rfl
  have F_sum_point : Fun K "sum_point" "sum_point" s_sum_point (He.ga K "sum_point") fd_sum_point := fun_of F0_sum_point
  have k_sum_point := F_sum_point.kp
  have a_sum_point : PySem.W.nsIn K mainGlobals "sum_point" = some (some (.ref (He.ga K "sum_point"))) := He.eqO_ok (c.t.d.fact 18 (f := .glo "sum_point") rfl)
  have b_sum_point := F_sum_point.binds (ps := ["row", "points", "given"]) fun _ _ _ _ _ _ us hl => match us, hl with | [_, _, _], _ => rfl
  obtain ⟨fd_move_point, F0_move_point⟩ := c.t.d.def_ 19 (d := dd_move_point) rfl
  have F_move_point : Fun K "move_point" "move_point" s_move_point (He.ga K "move_point") fd_move_point := fun_of F0_move_point
  have k_move_point := F_move_point.kp
  have a_move_point : PySem.W.nsIn K mainGlobals "move_point" = some (some (.ref (He.ga K "move_point"))) := He.eqO_ok (c.t.d.fact 19 (f := .glo "move_point") rfl)
  have b_move_point := F_move_point.binds (ps := ["row", "points", "given"]) fun _ _ _ _ _ _ us hl => match us, hl with | [_, _, _], _ => rfl
  obtain ⟨fd_keep_point, F0_keep_point⟩ := c.t.d.def_ 20 (d := dd_keep_point) rfl
  have F_keep_point : Fun K "keep_point" "keep_point" s_keep_point (He.ga K "keep_point") fd_keep_point := fun_of F0_keep_point
  have k_keep_point := F_keep_point.kp
  have a_keep_point : PySem.W.nsIn K mainGlobals "keep_point" = some (some (.ref (He.ga K "keep_point"))) := He.eqO_ok (c.t.d.fact 20 (f := .glo "keep_point") rfl)
  have b_keep_point := F_keep_point.binds (ps := ["row", "points", "given"]) fun _ _ _ _ _ _ us hl => match us, hl with | [_, _, _], _ => rfl
  obtain ⟨fd_is_written_as_row, F0_is_written_as_row⟩ := c.t.d.def_ 21 (d := dd_is_written_as_row) rfl
  have F_is_written_as_row : Fun K "is_written_as_row" "is_written_as_row" s_is_written_as_row (He.ga K "is_written_as_row") fd_is_written_as_row := fun_of F0_is_written_as_row
  have k_is_written_as_row := F_is_written_as_row.kp
  have a_is_written_as_row : PySem.W.nsIn K mainGlobals "is_written_as_row" = some (some (.ref (He.ga K "is_written_as_row"))) := He.eqO_ok (c.t.d.fact 21 (f := .glo "is_written_as_row") rfl)
  have b_is_written_as_row := F_is_written_as_row.binds (ps := ["thing"]) fun _ _ _ _ _ _ us hl => match us, hl with | [_], _ => rfl
  obtain ⟨fd_row_point, F0_row_point⟩ := c.t.d.def_ 22 (d := dd_row_point) rfl
  have F_row_point : Fun K "row_point" "row_point" s_row_point (He.ga K "row_point") fd_row_point := fun_of F0_row_point
  have k_row_point := F_row_point.kp
  have a_row_point : PySem.W.nsIn K mainGlobals "row_point" = some (some (.ref (He.ga K "row_point"))) := He.eqO_ok (c.t.d.fact 22 (f := .glo "row_point") rfl)
  have b_row_point := F_row_point.binds (ps := ["row", "points", "given"]) fun _ _ _ _ _ _ us hl => match us, hl with | [_, _, _], _ => rfl
  obtain ⟨fd_check_length, F0_check_length⟩ := c.t.d.def_ 23 (d := dd_check_length) rfl
  have F_check_length : Fun K "check_length" "check_length" s_check_length (He.ga K "check_length") fd_check_length := fun_of F0_check_length
  have k_check_length := F_check_length.kp
  have a_check_length : PySem.W.nsIn K mainGlobals "check_length" = some (some (.ref (He.ga K "check_length"))) := He.eqO_ok (c.t.d.fact 23 (f := .glo "check_length") rfl)
  have b_check_length := F_check_length.binds (ps := ["thing", "part", "least", "most"]) fun _ _ _ _ _ _ us hl => match us, hl with | [_, _, _, _], _ => rfl
  obtain ⟨fd_check_forms, F0_check_forms⟩ := c.t.d.def_ 24 (d := dd_check_forms) rfl
  have F_check_forms : Fun K "check_forms" "check_forms" s_check_forms (He.ga K "check_forms") fd_check_forms := fun_of F0_check_forms
  have k_check_forms := F_check_forms.kp
  have a_check_forms : PySem.W.nsIn K mainGlobals "check_forms" = some (some (.ref (He.ga K "check_forms"))) := He.eqO_ok (c.t.d.fact 24 (f := .glo "check_forms") rfl)
  have b_check_forms := F_check_forms.binds (ps := ["forms"]) fun _ _ _ _ _ _ us hl => match us, hl with | [_], _ => rfl
  obtain ⟨fd_is_hold, F0_is_hold⟩ := c.t.d.def_ 25 (d := dd_is_hold) rfl
  have F_is_hold : Fun K "is_hold" "is_hold" s_is_hold (He.ga K "is_hold") fd_is_hold := fun_of F0_is_hold
  have k_is_hold := F_is_hold.kp
  have a_is_hold : PySem.W.nsIn K mainGlobals "is_hold" = some (some (.ref (He.ga K "is_hold"))) := He.eqO_ok (c.t.d.fact 25 (f := .glo "is_hold") rfl)
  have b_is_hold := F_is_hold.binds (ps := ["thing", "forms"]) fun _ _ _ _ _ _ us hl => match us, hl with | [_, _], _ => rfl
  obtain ⟨fd_check_holds, F0_check_holds⟩ := c.t.d.def_ 26 (d := dd_check_holds) rfl
  have F_check_holds : Fun K "check_holds" "check_holds" s_check_holds (He.ga K "check_holds") fd_check_holds := fun_of F0_check_holds
  have k_check_holds := F_check_holds.kp
  have a_check_holds : PySem.W.nsIn K mainGlobals "check_holds" = some (some (.ref (He.ga K "check_holds"))) := He.eqO_ok (c.t.d.fact 26 (f := .glo "check_holds") rfl)
  have b_check_holds := F_check_holds.binds (ps := ["holds", "forms"]) fun _ _ _ _ _ _ us hl => match us, hl with | [_, _], _ => rfl
  obtain ⟨fd_checked_points, F0_checked_points⟩ := c.t.d.def_ 27 (d := dd_checked_points) rfl
  have F_checked_points : Fun K "checked_points" "checked_points" s_checked_points (He.ga K "checked_points") fd_checked_points := fun_of F0_checked_points
  have k_checked_points := F_checked_points.kp
  have a_checked_points : PySem.W.nsIn K mainGlobals "checked_points" = some (some (.ref (He.ga K "checked_points"))) := He.eqO_ok (c.t.d.fact 27 (f := .glo "checked_points") rfl)
  have b_checked_points := F_checked_points.binds (ps := ["rows", "given"]) fun _ _ _ _ _ _ us hl => match us, hl with | [_, _], _ => rfl
  obtain ⟨fd_check_links, F0_check_links⟩ := c.t.d.def_ 28 (d := dd_check_links) rfl
  have F_check_links : Fun K "check_links" "check_links" s_check_links (He.ga K "check_links") fd_check_links := fun_of F0_check_links
  have k_check_links := F_check_links.kp
  have a_check_links : PySem.W.nsIn K mainGlobals "check_links" = some (some (.ref (He.ga K "check_links"))) := He.eqO_ok (c.t.d.fact 28 (f := .glo "check_links") rfl)
  have b_check_links := F_check_links.binds (ps := ["holds", "rows"]) fun _ _ _ _ _ _ us hl => match us, hl with | [_, _], _ => rfl
  obtain ⟨fd_enter_form, F0_enter_form⟩ := c.t.d.def_ 29 (d := dd_enter_form) rfl
  have F_enter_form : Fun K "enter_form" "enter_form" s_enter_form (He.ga K "enter_form") fd_enter_form := fun_of F0_enter_form
  have k_enter_form := F_enter_form.kp
  have a_enter_form : PySem.W.nsIn K mainGlobals "enter_form" = some (some (.ref (He.ga K "enter_form"))) := He.eqO_ok (c.t.d.fact 29 (f := .glo "enter_form") rfl)
  have b_enter_form := F_enter_form.binds (ps := ["net"]) fun _ _ _ _ _ _ us hl => match us, hl with | [_], _ => rfl
  obtain ⟨fd_swept, F0_swept⟩ := c.t.d.def_ 30 (d := dd_swept) rfl
  have F_swept : Fun K "swept" "swept" s_swept (He.ga K "swept") fd_swept := fun_of F0_swept
  have k_swept := F_swept.kp
  have a_swept : PySem.W.nsIn K mainGlobals "swept" = some (some (.ref (He.ga K "swept"))) := He.eqO_ok (c.t.d.fact 30 (f := .glo "swept") rfl)
  have b_swept := F_swept.binds (ps := ["net", "heard", "held", "rule"]) fun _ _ _ _ _ _ us hl => match us, hl with | [_, _, _, _], _ => rfl
  obtain ⟨fd_renumbered, F0_renumbered⟩ := c.t.d.def_ 31 (d := dd_renumbered) rfl
  have F_renumbered : Fun K "renumbered" "renumbered" s_renumbered (He.ga K "renumbered") fd_renumbered := fun_of F0_renumbered
  have k_renumbered := F_renumbered.kp
  have a_renumbered : PySem.W.nsIn K mainGlobals "renumbered" = some (some (.ref (He.ga K "renumbered"))) := He.eqO_ok (c.t.d.fact 31 (f := .glo "renumbered") rfl)
  have b_renumbered := F_renumbered.binds (ps := ["row", "forms", "rows", "holds"]) fun _ _ _ _ _ _ us hl => match us, hl with | [_, _, _, _], _ => rfl
  obtain ⟨fd_spelled, F0_spelled⟩ := c.t.d.def_ 32 (d := dd_spelled) rfl
  have F_spelled : Fun K "spelled" "spelled" s_spelled (He.ga K "spelled") fd_spelled := fun_of F0_spelled
  have k_spelled := F_spelled.kp
  have a_spelled : PySem.W.nsIn K mainGlobals "spelled" = some (some (.ref (He.ga K "spelled"))) := He.eqO_ok (c.t.d.fact 32 (f := .glo "spelled") rfl)
  have b_spelled := F_spelled.binds (ps := ["number"]) fun _ _ _ _ _ _ us hl => match us, hl with | [_], _ => rfl
  obtain ⟨fd_put_times, F0_put_times⟩ := c.t.d.def_ 33 (d := dd_put_times) rfl
  have F_put_times : Fun K "put_times" "put_times" s_put_times (He.ga K "put_times") fd_put_times := fun_of F0_put_times
  have k_put_times := F_put_times.kp
  have a_put_times : PySem.W.nsIn K mainGlobals "put_times" = some (some (.ref (He.ga K "put_times"))) := He.eqO_ok (c.t.d.fact 33 (f := .glo "put_times") rfl)
  have b_put_times := F_put_times.binds (ps := ["rows", "factor", "more", "at"]) fun _ _ _ _ _ _ us hl => match us, hl with | [_, _, _, _], _ => rfl
  obtain ⟨fd_without_times, F0_without_times⟩ := c.t.d.def_ 34 (d := dd_without_times) rfl
  have F_without_times : Fun K "without_times" "without_times" s_without_times (He.ga K "without_times") fd_without_times := fun_of F0_without_times
  have k_without_times := F_without_times.kp
  have a_without_times : PySem.W.nsIn K mainGlobals "without_times" = some (some (.ref (He.ga K "without_times"))) := He.eqO_ok (c.t.d.fact 34 (f := .glo "without_times") rfl)
  have b_without_times := F_without_times.binds (ps := ["net"]) fun _ _ _ _ _ _ us hl => match us, hl with | [_], _ => rfl
  obtain ⟨fd_is_state, F0_is_state⟩ := c.t.d.def_ 35 (d := dd_is_state) rfl
  have F_is_state : Fun K "is_state" "is_state" s_is_state (He.ga K "is_state") fd_is_state := fun_of F0_is_state
  have k_is_state := F_is_state.kp
  have a_is_state : PySem.W.nsIn K mainGlobals "is_state" = some (some (.ref (He.ga K "is_state"))) := He.eqO_ok (c.t.d.fact 35 (f := .glo "is_state") rfl)
  have b_is_state := F_is_state.binds (ps := ["net", "thing"]) fun _ _ _ _ _ _ us hl => match us, hl with | [_, _], _ => rfl
  obtain ⟨fd_check_state, F0_check_state⟩ := c.t.d.def_ 36 (d := dd_check_state) rfl
  have F_check_state : Fun K "check_state" "check_state" s_check_state (He.ga K "check_state") fd_check_state := fun_of F0_check_state
  have k_check_state := F_check_state.kp
  have a_check_state : PySem.W.nsIn K mainGlobals "check_state" = some (some (.ref (He.ga K "check_state"))) := He.eqO_ok (c.t.d.fact 36 (f := .glo "check_state") rfl)
  have b_check_state := F_check_state.binds (ps := ["net", "state"]) fun _ _ _ _ _ _ us hl => match us, hl with | [_, _], _ => rfl
  obtain ⟨fd_check_word, F0_check_word⟩ := c.t.d.def_ 37 (d := dd_check_word) rfl
  have F_check_word : Fun K "check_word" "check_word" s_check_word (He.ga K "check_word") fd_check_word := fun_of F0_check_word
  have k_check_word := F_check_word.kp
  have a_check_word : PySem.W.nsIn K mainGlobals "check_word" = some (some (.ref (He.ga K "check_word"))) := He.eqO_ok (c.t.d.fact 37 (f := .glo "check_word") rfl)
  have b_check_word := F_check_word.binds (ps := ["net", "word"]) fun _ _ _ _ _ _ us hl => match us, hl with | [_, _], _ => rfl
  obtain ⟨fd_sum_number, F0_sum_number⟩ := c.t.d.def_ 38 (d := dd_sum_number) rfl
  have F_sum_number : Fun K "sum_number" "sum_number" s_sum_number (He.ga K "sum_number") fd_sum_number := fun_of F0_sum_number
  have k_sum_number := F_sum_number.kp
  have a_sum_number : PySem.W.nsIn K mainGlobals "sum_number" = some (some (.ref (He.ga K "sum_number"))) := He.eqO_ok (c.t.d.fact 38 (f := .glo "sum_number") rfl)
  have b_sum_number := F_sum_number.binds (ps := ["row", "numbers", "points"]) fun _ _ _ _ _ _ us hl => match us, hl with | [_, _, _], _ => rfl
  obtain ⟨fd_number_of_row, F0_number_of_row⟩ := c.t.d.def_ 39 (d := dd_number_of_row) rfl
  have F_number_of_row : Fun K "number_of_row" "number_of_row" s_number_of_row (He.ga K "number_of_row") fd_number_of_row := fun_of F0_number_of_row
  have k_number_of_row := F_number_of_row.kp
  have a_number_of_row : PySem.W.nsIn K mainGlobals "number_of_row" = some (some (.ref (He.ga K "number_of_row"))) := He.eqO_ok (c.t.d.fact 39 (f := .glo "number_of_row") rfl)
  have b_number_of_row := F_number_of_row.binds (ps := ["row", "numbers", "forms", "points"]) fun _ _ _ _ _ _ us hl => match us, hl with | [_, _, _, _], _ => rfl
  obtain ⟨fd_state_behind, F0_state_behind⟩ := c.t.d.def_ 40 (d := dd_state_behind) rfl
  have F_state_behind : Fun K "state_behind" "state_behind" s_state_behind (He.ga K "state_behind") fd_state_behind := fun_of F0_state_behind
  have k_state_behind := F_state_behind.kp
  have a_state_behind : PySem.W.nsIn K mainGlobals "state_behind" = some (some (.ref (He.ga K "state_behind"))) := He.eqO_ok (c.t.d.fact 40 (f := .glo "state_behind") rfl)
  have b_state_behind := F_state_behind.binds (ps := ["net", "numbers"]) fun _ _ _ _ _ _ us hl => match us, hl with | [_, _], _ => rfl
  obtain ⟨fd_turn_of, F0_turn_of⟩ := c.t.d.def_ 41 (d := dd_turn_of) rfl
  have F_turn_of : Fun K "turn_of" "turn_of" s_turn_of (He.ga K "turn_of") fd_turn_of := fun_of F0_turn_of
  have k_turn_of := F_turn_of.kp
  have a_turn_of : PySem.W.nsIn K mainGlobals "turn_of" = some (some (.ref (He.ga K "turn_of"))) := He.eqO_ok (c.t.d.fact 41 (f := .glo "turn_of") rfl)
  have b_turn_of := F_turn_of.binds (ps := ["net", "state", "word"]) fun _ _ _ _ _ _ us hl => match us, hl with | [_, _, _], _ => rfl
  obtain ⟨fd_turned, F0_turned⟩ := c.t.d.def_ 42 (d := dd_turned) rfl
  have F_turned : Fun K "turned" "turned" s_turned (He.ga K "turned") fd_turned := fun_of F0_turned
  have k_turned := F_turned.kp
  have a_turned : PySem.W.nsIn K mainGlobals "turned" = some (some (.ref (He.ga K "turned"))) := He.eqO_ok (c.t.d.fact 42 (f := .glo "turned") rfl)
  have b_turned := F_turned.binds (ps := ["net", "state", "word"]) fun _ _ _ _ _ _ us hl => match us, hl with | [_, _, _], _ => rfl
  obtain ⟨fd__law_cell_at, F0__law_cell_at⟩ := c.t.d.def_ 43 (d := dd__law_cell_at) rfl
  have F__law_cell_at : Fun K "_law_cell_at" "_law_cell_at" s__law_cell_at (He.ga K "_law_cell_at") fd__law_cell_at := fun_of F0__law_cell_at
  have k__law_cell_at := F__law_cell_at.kp
  have a__law_cell_at : PySem.W.nsIn K mainGlobals "_law_cell_at" = some (some (.ref (He.ga K "_law_cell_at"))) := He.eqO_ok (c.t.d.fact 43 (f := .glo "_law_cell_at") rfl)
  have b__law_cell_at := F__law_cell_at.binds (ps := ["_law_script", "_law_k"]) fun _ _ _ _ _ _ us hl => match us, hl with | [_, _], _ => rfl
  obtain ⟨fd__law_well, F0__law_well⟩ := c.t.d.def_ 44 (d := dd__law_well) rfl
  have F__law_well : Fun K "_law_well" "_law_well" s__law_well (He.ga K "_law_well") fd__law_well := fun_of F0__law_well
  have k__law_well := F__law_well.kp
  have a__law_well : PySem.W.nsIn K mainGlobals "_law_well" = some (some (.ref (He.ga K "_law_well"))) := He.eqO_ok (c.t.d.fact 44 (f := .glo "_law_well") rfl)
  have b__law_well := F__law_well.binds (ps := ["_law_cell"]) fun _ _ _ _ _ _ us hl => match us, hl with | [_], _ => rfl
  obtain ⟨fd__law_draw, F0__law_draw⟩ := c.t.d.def_ 45 (d := dd__law_draw) rfl
  have F__law_draw : Fun K "_law_draw" "_law_draw" s__law_draw (He.ga K "_law_draw") fd__law_draw := fun_of F0__law_draw
  have k__law_draw := F__law_draw.kp
  have a__law_draw : PySem.W.nsIn K mainGlobals "_law_draw" = some (some (.ref (He.ga K "_law_draw"))) := He.eqO_ok (c.t.d.fact 45 (f := .glo "_law_draw") rfl)
  have b__law_draw := F__law_draw.binds (ps := ["_law_well_here", "_law_many"]) fun _ _ _ _ _ _ us hl => match us, hl with | [_, _], _ => rfl
  obtain ⟨fd__law_form, F0__law_form⟩ := c.t.d.def_ 46 (d := dd__law_form) rfl
  have F__law_form : Fun K "_law_form" "_law_form" s__law_form (He.ga K "_law_form") fd__law_form := fun_of F0__law_form
  have k__law_form := F__law_form.kp
  have a__law_form : PySem.W.nsIn K mainGlobals "_law_form" = some (some (.ref (He.ga K "_law_form"))) := He.eqO_ok (c.t.d.fact 46 (f := .glo "_law_form") rfl)
  have b__law_form := F__law_form.binds (ps := ["_law_well_here", "_law_widths"]) fun _ _ _ _ _ _ us hl => match us, hl with | [_, _], _ => rfl
  obtain ⟨fd__law_word, F0__law_word⟩ := c.t.d.def_ 47 (d := dd__law_word) rfl
  have F__law_word : Fun K "_law_word" "_law_word" s__law_word (He.ga K "_law_word") fd__law_word := fun_of F0__law_word
  have k__law_word := F__law_word.kp
  have a__law_word : PySem.W.nsIn K mainGlobals "_law_word" = some (some (.ref (He.ga K "_law_word"))) := He.eqO_ok (c.t.d.fact 47 (f := .glo "_law_word") rfl)
  have b__law_word := F__law_word.binds (ps := ["_law_form_here", "_law_well_here"]) fun _ _ _ _ _ _ us hl => match us, hl with | [_, _], _ => rfl
  obtain ⟨fd__law_coefficient, F0__law_coefficient⟩ := c.t.d.def_ 48 (d := dd__law_coefficient) rfl
  have F__law_coefficient : Fun K "_law_coefficient" "_law_coefficient" s__law_coefficient (He.ga K "_law_coefficient") fd__law_coefficient := fun_of F0__law_coefficient
  have k__law_coefficient := F__law_coefficient.kp
  have a__law_coefficient : PySem.W.nsIn K mainGlobals "_law_coefficient" = some (some (.ref (He.ga K "_law_coefficient"))) := He.eqO_ok (c.t.d.fact 48 (f := .glo "_law_coefficient") rfl)
  have b__law_coefficient := F__law_coefficient.binds (ps := ["_law_well_here"]) fun _ _ _ _ _ _ us hl => match us, hl with | [_], _ => rfl
  obtain ⟨fd__law_leaf, F0__law_leaf⟩ := c.t.d.def_ 49 (d := dd__law_leaf) rfl
  have F__law_leaf : Fun K "_law_leaf" "_law_leaf" s__law_leaf (He.ga K "_law_leaf") fd__law_leaf := fun_of F0__law_leaf
  have k__law_leaf := F__law_leaf.kp
  have a__law_leaf : PySem.W.nsIn K mainGlobals "_law_leaf" = some (some (.ref (He.ga K "_law_leaf"))) := He.eqO_ok (c.t.d.fact 49 (f := .glo "_law_leaf") rfl)
  have b__law_leaf := F__law_leaf.binds (ps := ["_law_well_here", "_law_held"]) fun _ _ _ _ _ _ us hl => match us, hl with | [_, _], _ => rfl
  obtain ⟨fd__law_begun, F0__law_begun⟩ := c.t.d.def_ 50 (d := dd__law_begun) rfl
  have F__law_begun : Fun K "_law_begun" "_law_begun" s__law_begun (He.ga K "_law_begun") fd__law_begun := fun_of F0__law_begun
  have k__law_begun := F__law_begun.kp
  have a__law_begun : PySem.W.nsIn K mainGlobals "_law_begun" = some (some (.ref (He.ga K "_law_begun"))) := He.eqO_ok (c.t.d.fact 50 (f := .glo "_law_begun") rfl)
  have b__law_begun := F__law_begun.binds (ps := ["_law_well_here", "_law_held"]) fun _ _ _ _ _ _ us hl => match us, hl with | [_, _], _ => rfl
  obtain ⟨fd__law_point, F0__law_point⟩ := c.t.d.def_ 51 (d := dd__law_point) rfl
  have F__law_point : Fun K "_law_point" "_law_point" s__law_point (He.ga K "_law_point") fd__law_point := fun_of F0__law_point
  have k__law_point := F__law_point.kp
  have a__law_point : PySem.W.nsIn K mainGlobals "_law_point" = some (some (.ref (He.ga K "_law_point"))) := He.eqO_ok (c.t.d.fact 51 (f := .glo "_law_point") rfl)
  have b__law_point := F__law_point.binds (ps := ["_law_row", "_law_points", "_law_forms", "_law_enters", "_law_held"]) fun _ _ _ _ _ _ us hl => match us, hl with | [_, _, _, _, _], _ => rfl
  obtain ⟨fd__law_one_more, F0__law_one_more⟩ := c.t.d.def_ 52 (d := dd__law_one_more) rfl
  have F__law_one_more : Fun K "_law_one_more" "_law_one_more" s__law_one_more (He.ga K "_law_one_more") fd__law_one_more := fun_of F0__law_one_more
  have k__law_one_more := F__law_one_more.kp
  have a__law_one_more : PySem.W.nsIn K mainGlobals "_law_one_more" = some (some (.ref (He.ga K "_law_one_more"))) := He.eqO_ok (c.t.d.fact 52 (f := .glo "_law_one_more") rfl)
  have b__law_one_more := F__law_one_more.binds (ps := ["_law_well_here", "_law_rows", "_law_points", "_law_forms", "_law_held"]) fun _ _ _ _ _ _ us hl => match us, hl with | [_, _, _, _, _], _ => rfl
  obtain ⟨fd__law_filled, F0__law_filled⟩ := c.t.d.def_ 53 (d := dd__law_filled) rfl
  have F__law_filled : Fun K "_law_filled" "_law_filled" s__law_filled (He.ga K "_law_filled") fd__law_filled := fun_of F0__law_filled
  have k__law_filled := F__law_filled.kp
  have a__law_filled : PySem.W.nsIn K mainGlobals "_law_filled" = some (some (.ref (He.ga K "_law_filled"))) := He.eqO_ok (c.t.d.fact 53 (f := .glo "_law_filled") rfl)
  have b__law_filled := F__law_filled.binds (ps := ["_law_well_here", "_law_net_here", "_law_many"]) fun _ _ _ _ _ _ us hl => match us, hl with | [_, _, _], _ => rfl
  obtain ⟨fd__law_links, F0__law_links⟩ := c.t.d.def_ 54 (d := dd__law_links) rfl
  have F__law_links : Fun K "_law_links" "_law_links" s__law_links (He.ga K "_law_links") fd__law_links := fun_of F0__law_links
  have k__law_links := F__law_links.kp
  have a__law_links : PySem.W.nsIn K mainGlobals "_law_links" = some (some (.ref (He.ga K "_law_links"))) := He.eqO_ok (c.t.d.fact 54 (f := .glo "_law_links") rfl)
  have b__law_links := F__law_links.binds (ps := ["_law_well_here", "_law_net_here"]) fun _ _ _ _ _ _ us hl => match us, hl with | [_, _], _ => rfl
  obtain ⟨fd__law_built_of, F0__law_built_of⟩ := c.t.d.def_ 55 (d := dd__law_built_of) rfl
  have F__law_built_of : Fun K "_law_built_of" "_law_built_of" s__law_built_of (He.ga K "_law_built_of") fd__law_built_of := fun_of F0__law_built_of
  have k__law_built_of := F__law_built_of.kp
  have a__law_built_of : PySem.W.nsIn K mainGlobals "_law_built_of" = some (some (.ref (He.ga K "_law_built_of"))) := He.eqO_ok (c.t.d.fact 55 (f := .glo "_law_built_of") rfl)
  have b__law_built_of := F__law_built_of.binds (ps := ["_law_well_here", "_law_forms", "_law_enters", "_law_held", "_law_most"]) fun _ _ _ _ _ _ us hl => match us, hl with | [_, _, _, _, _], _ => rfl
  obtain ⟨fd__law_net, F0__law_net⟩ := c.t.d.def_ 56 (d := dd__law_net) rfl
  have F__law_net : Fun K "_law_net" "_law_net" s__law_net (He.ga K "_law_net") fd__law_net := fun_of F0__law_net
  have k__law_net := F__law_net.kp
  have a__law_net : PySem.W.nsIn K mainGlobals "_law_net" = some (some (.ref (He.ga K "_law_net"))) := He.eqO_ok (c.t.d.fact 56 (f := .glo "_law_net") rfl)
  have b__law_net := F__law_net.binds (ps := ["_law_well_here", "_law_widths", "_law_most"]) fun _ _ _ _ _ _ us hl => match us, hl with | [_, _, _], _ => rfl
  obtain ⟨fd__law_made, F0__law_made⟩ := c.t.d.def_ 57 (d := dd__law_made) rfl
  have F__law_made : Fun K "_law_made" "_law_made" s__law_made (He.ga K "_law_made") fd__law_made := fun_of F0__law_made
  have k__law_made := F__law_made.kp
  have a__law_made : PySem.W.nsIn K mainGlobals "_law_made" = some (some (.ref (He.ga K "_law_made"))) := He.eqO_ok (c.t.d.fact 57 (f := .glo "_law_made") rfl)
  have b__law_made := F__law_made.binds (ps := ["_law_net_here"]) fun _ _ _ _ _ _ us hl => match us, hl with | [_], _ => rfl
  obtain ⟨fd__law_spelled, F0__law_spelled⟩ := c.t.d.def_ 58 (d := dd__law_spelled) rfl
  have F__law_spelled : Fun K "_law_spelled" "_law_spelled" s__law_spelled (He.ga K "_law_spelled") fd__law_spelled := fun_of F0__law_spelled
  have k__law_spelled := F__law_spelled.kp
  have a__law_spelled : PySem.W.nsIn K mainGlobals "_law_spelled" = some (some (.ref (He.ga K "_law_spelled"))) := He.eqO_ok (c.t.d.fact 58 (f := .glo "_law_spelled") rfl)
  have b__law_spelled := F__law_spelled.binds (ps := ["_law_number"]) fun _ _ _ _ _ _ us hl => match us, hl with | [_], _ => rfl
  obtain ⟨fd__law_again, F0__law_again⟩ := c.t.d.def_ 59 (d := dd__law_again) rfl
  have F__law_again : Fun K "_law_again" "_law_again" s__law_again (He.ga K "_law_again") fd__law_again := fun_of F0__law_again
  have k__law_again := F__law_again.kp
  have a__law_again : PySem.W.nsIn K mainGlobals "_law_again" = some (some (.ref (He.ga K "_law_again"))) := He.eqO_ok (c.t.d.fact 59 (f := .glo "_law_again") rfl)
  have b__law_again := F__law_again.binds (ps := ["_law_row", "_law_places"]) fun _ _ _ _ _ _ us hl => match us, hl with | [_, _], _ => rfl
  obtain ⟨fd__law_due, F0__law_due⟩ := c.t.d.def_ 60 (d := dd__law_due) rfl
  have F__law_due : Fun K "_law_due" "_law_due" s__law_due (He.ga K "_law_due") fd__law_due := fun_of F0__law_due
  have k__law_due := F__law_due.kp
  have a__law_due : PySem.W.nsIn K mainGlobals "_law_due" = some (some (.ref (He.ga K "_law_due"))) := He.eqO_ok (c.t.d.fact 60 (f := .glo "_law_due") rfl)
  have b__law_due := F__law_due.binds (ps := ["_law_rows"]) fun _ _ _ _ _ _ us hl => match us, hl with | [_], _ => rfl
  obtain ⟨fd__law_amiss, F0__law_amiss⟩ := c.t.d.def_ 61 (d := dd__law_amiss) rfl
  have F__law_amiss : Fun K "_law_amiss" "_law_amiss" s__law_amiss (He.ga K "_law_amiss") fd__law_amiss := fun_of F0__law_amiss
  have k__law_amiss := F__law_amiss.kp
  have a__law_amiss : PySem.W.nsIn K mainGlobals "_law_amiss" = some (some (.ref (He.ga K "_law_amiss"))) := He.eqO_ok (c.t.d.fact 61 (f := .glo "_law_amiss") rfl)
  have b__law_amiss := F__law_amiss.binds (ps := ["_law_net_here", "_law_rows"]) fun _ _ _ _ _ _ us hl => match us, hl with | [_, _], _ => rfl
  obtain ⟨fd__law_worth_alike, F0__law_worth_alike⟩ := c.t.d.def_ 62 (d := dd__law_worth_alike) rfl
  have F__law_worth_alike : Fun K "_law_worth_alike" "_law_worth_alike" s__law_worth_alike (He.ga K "_law_worth_alike") fd__law_worth_alike := fun_of F0__law_worth_alike
  have k__law_worth_alike := F__law_worth_alike.kp
  have a__law_worth_alike : PySem.W.nsIn K mainGlobals "_law_worth_alike" = some (some (.ref (He.ga K "_law_worth_alike"))) := He.eqO_ok (c.t.d.fact 62 (f := .glo "_law_worth_alike") rfl)
  have b__law_worth_alike := F__law_worth_alike.binds (ps := ["_law_one", "_law_here", "_law_other", "_law_there"]) fun _ _ _ _ _ _ us hl => match us, hl with | [_, _, _, _], _ => rfl
  obtain ⟨fd__law_same, F0__law_same⟩ := c.t.d.def_ 63 (d := dd__law_same) rfl
  have F__law_same : Fun K "_law_same" "_law_same" s__law_same (He.ga K "_law_same") fd__law_same := fun_of F0__law_same
  have k__law_same := F__law_same.kp
  have a__law_same : PySem.W.nsIn K mainGlobals "_law_same" = some (some (.ref (He.ga K "_law_same"))) := He.eqO_ok (c.t.d.fact 63 (f := .glo "_law_same") rfl)
  have b__law_same := F__law_same.binds (ps := ["_law_made_here", "_law_told", "_law_places", "_law_states"]) fun _ _ _ _ _ _ us hl => match us, hl with | [_, _, _, _], _ => rfl
  obtain ⟨fd__law_refused, F0__law_refused⟩ := c.t.d.def_ 64 (d := dd__law_refused) rfl
  have F__law_refused : Fun K "_law_refused" "_law_refused" s__law_refused (He.ga K "_law_refused") fd__law_refused := fun_of F0__law_refused
  have k__law_refused := F__law_refused.kp
  have a__law_refused : PySem.W.nsIn K mainGlobals "_law_refused" = some (some (.ref (He.ga K "_law_refused"))) := He.eqO_ok (c.t.d.fact 64 (f := .glo "_law_refused") rfl)
  have b__law_refused := F__law_refused.binds (ps := ["_law_made_here"]) fun _ _ _ _ _ _ us hl => match us, hl with | [_], _ => rfl
  obtain ⟨fd__law_right, F0__law_right⟩ := c.t.d.def_ 65 (d := dd__law_right) rfl
  have F__law_right : Fun K "_law_right" "_law_right" s__law_right (He.ga K "_law_right") fd__law_right := fun_of F0__law_right
  have k__law_right := F__law_right.kp
  have a__law_right : PySem.W.nsIn K mainGlobals "_law_right" = some (some (.ref (He.ga K "_law_right"))) := He.eqO_ok (c.t.d.fact 65 (f := .glo "_law_right") rfl)
  have b__law_right := F__law_right.binds (ps := ["_law_net_here", "_law_made_here", "_law_rows", "_law_places"]) fun _ _ _ _ _ _ us hl => match us, hl with | [_, _, _, _], _ => rfl
  obtain ⟨fd_law, F0_law⟩ := c.t.d.def_ 66 (d := dd_law) rfl
  have F_law : Fun K "law" "law" s_law (He.ga K "law") fd_law := fun_of F0_law
  have k_law := F_law.kp
  have a_law : PySem.W.nsIn K mainGlobals "law" = some (some (.ref (He.ga K "law"))) := He.eqO_ok (c.t.d.fact 66 (f := .glo "law") rfl)
  have b_law := F_law.binds (ps := ["_law_script"]) fun _ _ _ _ _ _ us hl => match us, hl with | [_], _ => rfl
  have aC_C : PySem.W.nsIn K mainGlobals "Form" = some (some (.ref C)) := by
    rw [← e_C]
    exact He.eqO_ok (c.t.d.fact 67 (f := .glo "Form") rfl)
  have cl_C : Cls K C := by
    rw [← e_C]
    exact He.cls_ok (c.t.d.fact 68 (f := .cls "Form") rfl)
  have pg_C := cl_C.1
  have hd_C := cl_C.2
  have po_C := cl_C.3
  have sa_C := cl_C.4
  have mk0_C : Mk K C (He.ma K (He.ga K "Form") "__init__") := by
    rw [← e_C]
    exact He.mkr_ok (c.t.d.fact 69 (f := .mkr "Form") rfl)
  have mk_C := mk0_C.1
  have kc_C := mk0_C.4
  have n_C_width : NoAttr K C "width" := by
    rw [← e_C]
    exact He.noat_ok (c.t.d.fact 70 (f := .noat "Form" "width") rfl)
  have n_C_point : NoAttr K C "point" := by
    rw [← e_C]
    exact He.noat_ok (c.t.d.fact 71 (f := .noat "Form" "point") rfl)
  have n_C_manner : NoAttr K C "manner" := by
    rw [← e_C]
    exact He.noat_ok (c.t.d.fact 72 (f := .noat "Form" "manner") rfl)
  have n_C_ends : NoAttr K C "ends" := by
    rw [← e_C]
    exact He.noat_ok (c.t.d.fact 73 (f := .noat "Form" "ends") rfl)
  have aC_CN : PySem.W.nsIn K mainGlobals "Net" = some (some (.ref CN)) := by
    rw [← e_CN]
    exact He.eqO_ok (c.t.d.fact 74 (f := .glo "Net") rfl)
  have cl_CN : Cls K CN := by
    rw [← e_CN]
    exact He.cls_ok (c.t.d.fact 75 (f := .cls "Net") rfl)
  have pg_CN := cl_CN.1
  have hd_CN := cl_CN.2
  have po_CN := cl_CN.3
  have sa_CN := cl_CN.4
  have mk0_CN : Mk K CN (He.ma K (He.ga K "Net") "__init__") := by
    rw [← e_CN]
    exact He.mkr_ok (c.t.d.fact 76 (f := .mkr "Net") rfl)
  have mk_CN := mk0_CN.1
  have kc_CN := mk0_CN.4
  have n_CN_form_list : NoAttr K CN "form_list" := by
    rw [← e_CN]
    exact He.noat_ok (c.t.d.fact 77 (f := .noat "Net" "form_list") rfl)
  have n_CN_enters_at : NoAttr K CN "enters_at" := by
    rw [← e_CN]
    exact He.noat_ok (c.t.d.fact 78 (f := .noat "Net" "enters_at") rfl)
  have n_CN_row_list : NoAttr K CN "row_list" := by
    rw [← e_CN]
    exact He.noat_ok (c.t.d.fact 79 (f := .noat "Net" "row_list") rfl)
  have n_CN_hold_list : NoAttr K CN "hold_list" := by
    rw [← e_CN]
    exact He.noat_ok (c.t.d.fact 80 (f := .noat "Net" "hold_list") rfl)
  have n_CN_out_at : NoAttr K CN "out_at" := by
    rw [← e_CN]
    exact He.noat_ok (c.t.d.fact 81 (f := .noat "Net" "out_at") rfl)
  have n_CN_point_list : NoAttr K CN "point_list" := by
    rw [← e_CN]
    exact He.noat_ok (c.t.d.fact 82 (f := .noat "Net" "point_list") rfl)
  obtain ⟨fd_Form_least, F0_Form_least⟩ := c.t.d.def_ 67 (d := dd_Form_least) rfl
  have F_Form_least : Fun K "least" "Form.least" s_Form_least (He.ma K (He.ga K "Form") "least") fd_Form_least := fun_of F0_Form_least
  have k_Form_least := F_Form_least.kp
  have m0_Form_least : Meth K C "least" (He.ma K (He.ga K "Form") "least") := by
    rw [← e_C]
    exact He.meth_ok (c.t.d.fact 83 (f := .meth "Form" "least") rfl)
  have a_Form_least := m0_Form_least.1
  have i_Form_least := m0_Form_least.2
  have b_Form_least := F_Form_least.binds (ps := ["self"]) fun _ _ _ _ _ _ us hl => match us, hl with | [_], _ => rfl
  obtain ⟨fd_Form_greatest, F0_Form_greatest⟩ := c.t.d.def_ 68 (d := dd_Form_greatest) rfl
  have F_Form_greatest : Fun K "greatest" "Form.greatest" s_Form_greatest (He.ma K (He.ga K "Form") "greatest") fd_Form_greatest := fun_of F0_Form_greatest
  have k_Form_greatest := F_Form_greatest.kp
  have m0_Form_greatest : Meth K C "greatest" (He.ma K (He.ga K "Form") "greatest") := by
    rw [← e_C]
    exact He.meth_ok (c.t.d.fact 84 (f := .meth "Form" "greatest") rfl)
  have a_Form_greatest := m0_Form_greatest.1
  have i_Form_greatest := m0_Form_greatest.2
  have b_Form_greatest := F_Form_greatest.binds (ps := ["self"]) fun _ _ _ _ _ _ us hl => match us, hl with | [_], _ => rfl
  obtain ⟨fd_Form_has, F0_Form_has⟩ := c.t.d.def_ 69 (d := dd_Form_has) rfl
  have F_Form_has : Fun K "has" "Form.has" s_Form_has (He.ma K (He.ga K "Form") "has") fd_Form_has := fun_of F0_Form_has
  have k_Form_has := F_Form_has.kp
  have m0_Form_has : Meth K C "has" (He.ma K (He.ga K "Form") "has") := by
    rw [← e_C]
    exact He.meth_ok (c.t.d.fact 85 (f := .meth "Form" "has") rfl)
  have a_Form_has := m0_Form_has.1
  have i_Form_has := m0_Form_has.2
  have b_Form_has := F_Form_has.binds (ps := ["self", "thing"]) fun _ _ _ _ _ _ us hl => match us, hl with | [_, _], _ => rfl
  obtain ⟨fd_Form_word_for, F0_Form_word_for⟩ := c.t.d.def_ 70 (d := dd_Form_word_for) rfl
  have F_Form_word_for : Fun K "word_for" "Form.word_for" s_Form_word_for (He.ma K (He.ga K "Form") "word_for") fd_Form_word_for := fun_of F0_Form_word_for
  have k_Form_word_for := F_Form_word_for.kp
  have m0_Form_word_for : Meth K C "word_for" (He.ma K (He.ga K "Form") "word_for") := by
    rw [← e_C]
    exact He.meth_ok (c.t.d.fact 86 (f := .meth "Form" "word_for") rfl)
  have a_Form_word_for := m0_Form_word_for.1
  have i_Form_word_for := m0_Form_word_for.2
  have b_Form_word_for := F_Form_word_for.binds (ps := ["self", "number"]) fun _ _ _ _ _ _ us hl => match us, hl with | [_, _], _ => rfl
  obtain ⟨fd_Form_ended, F0_Form_ended⟩ := c.t.d.def_ 71 (d := dd_Form_ended) rfl
  have F_Form_ended : Fun K "ended" "Form.ended" s_Form_ended (He.ma K (He.ga K "Form") "ended") fd_Form_ended := fun_of F0_Form_ended
  have k_Form_ended := F_Form_ended.kp
  have m0_Form_ended : Meth K C "ended" (He.ma K (He.ga K "Form") "ended") := by
    rw [← e_C]
    exact He.meth_ok (c.t.d.fact 87 (f := .meth "Form" "ended") rfl)
  have a_Form_ended := m0_Form_ended.1
  have i_Form_ended := m0_Form_ended.2
  have b_Form_ended := F_Form_ended.binds (ps := ["self", "number"]) fun _ _ _ _ _ _ us hl => match us, hl with | [_, _], _ => rfl
  obtain ⟨fd_Form_kept_at, F0_Form_kept_at⟩ := c.t.d.def_ 72 (d := dd_Form_kept_at) rfl
  have F_Form_kept_at : Fun K "kept_at" "Form.kept_at" s_Form_kept_at (He.ma K (He.ga K "Form") "kept_at") fd_Form_kept_at := fun_of F0_Form_kept_at
  have k_Form_kept_at := F_Form_kept_at.kp
  have m0_Form_kept_at : Meth K C "kept_at" (He.ma K (He.ga K "Form") "kept_at") := by
    rw [← e_C]
    exact He.meth_ok (c.t.d.fact 88 (f := .meth "Form" "kept_at") rfl)
  have a_Form_kept_at := m0_Form_kept_at.1
  have i_Form_kept_at := m0_Form_kept_at.2
  have b_Form_kept_at := F_Form_kept_at.binds (ps := ["self", "number", "point"]) fun _ _ _ _ _ _ us hl => match us, hl with | [_, _, _], _ => rfl
  obtain ⟨fd_Form___eq__, F0_Form___eq__⟩ := c.t.d.def_ 73 (d := dd_Form___eq__) rfl
  have F_Form___eq__ : Fun K "__eq__" "Form.__eq__" s_Form___eq__ (He.ma K (He.ga K "Form") "__eq__") fd_Form___eq__ := fun_of F0_Form___eq__
  have k_Form___eq__ := F_Form___eq__.kp
  have m0_Form___eq__ : Meth K C "__eq__" (He.ma K (He.ga K "Form") "__eq__") := by
    rw [← e_C]
    exact He.meth_ok (c.t.d.fact 89 (f := .meth "Form" "__eq__") rfl)
  have a_Form___eq__ := m0_Form___eq__.1
  have i_Form___eq__ := m0_Form___eq__.2
  have b_Form___eq__ := F_Form___eq__.binds (ps := ["self", "other"]) fun _ _ _ _ _ _ us hl => match us, hl with | [_, _], _ => rfl
  obtain ⟨fd_Net_forms, F0_Net_forms⟩ := c.t.d.def_ 74 (d := dd_Net_forms) rfl
  have F_Net_forms : Fun K "forms" "Net.forms" s_Net_forms (He.ma K (He.ga K "Net") "forms") fd_Net_forms := fun_of F0_Net_forms
  have k_Net_forms := F_Net_forms.kp
  have m0_Net_forms : Meth K CN "forms" (He.ma K (He.ga K "Net") "forms") := by
    rw [← e_CN]
    exact He.meth_ok (c.t.d.fact 90 (f := .meth "Net" "forms") rfl)
  have a_Net_forms := m0_Net_forms.1
  have i_Net_forms := m0_Net_forms.2
  have b_Net_forms := F_Net_forms.binds (ps := ["self"]) fun _ _ _ _ _ _ us hl => match us, hl with | [_], _ => rfl
  obtain ⟨fd_Net_rows, F0_Net_rows⟩ := c.t.d.def_ 75 (d := dd_Net_rows) rfl
  have F_Net_rows : Fun K "rows" "Net.rows" s_Net_rows (He.ma K (He.ga K "Net") "rows") fd_Net_rows := fun_of F0_Net_rows
  have k_Net_rows := F_Net_rows.kp
  have m0_Net_rows : Meth K CN "rows" (He.ma K (He.ga K "Net") "rows") := by
    rw [← e_CN]
    exact He.meth_ok (c.t.d.fact 91 (f := .meth "Net" "rows") rfl)
  have a_Net_rows := m0_Net_rows.1
  have i_Net_rows := m0_Net_rows.2
  have b_Net_rows := F_Net_rows.binds (ps := ["self"]) fun _ _ _ _ _ _ us hl => match us, hl with | [_], _ => rfl
  obtain ⟨fd_Net_holds, F0_Net_holds⟩ := c.t.d.def_ 76 (d := dd_Net_holds) rfl
  have F_Net_holds : Fun K "holds" "Net.holds" s_Net_holds (He.ma K (He.ga K "Net") "holds") fd_Net_holds := fun_of F0_Net_holds
  have k_Net_holds := F_Net_holds.kp
  have m0_Net_holds : Meth K CN "holds" (He.ma K (He.ga K "Net") "holds") := by
    rw [← e_CN]
    exact He.meth_ok (c.t.d.fact 92 (f := .meth "Net" "holds") rfl)
  have a_Net_holds := m0_Net_holds.1
  have i_Net_holds := m0_Net_holds.2
  have b_Net_holds := F_Net_holds.binds (ps := ["self"]) fun _ _ _ _ _ _ us hl => match us, hl with | [_], _ => rfl
  obtain ⟨fd_Net_points, F0_Net_points⟩ := c.t.d.def_ 77 (d := dd_Net_points) rfl
  have F_Net_points : Fun K "points" "Net.points" s_Net_points (He.ma K (He.ga K "Net") "points") fd_Net_points := fun_of F0_Net_points
  have k_Net_points := F_Net_points.kp
  have m0_Net_points : Meth K CN "points" (He.ma K (He.ga K "Net") "points") := by
    rw [← e_CN]
    exact He.meth_ok (c.t.d.fact 93 (f := .meth "Net" "points") rfl)
  have a_Net_points := m0_Net_points.1
  have i_Net_points := m0_Net_points.2
  have b_Net_points := F_Net_points.binds (ps := ["self"]) fun _ _ _ _ _ _ us hl => match us, hl with | [_], _ => rfl
  obtain ⟨fd_Net_enters, F0_Net_enters⟩ := c.t.d.def_ 78 (d := dd_Net_enters) rfl
  have F_Net_enters : Fun K "enters" "Net.enters" s_Net_enters (He.ma K (He.ga K "Net") "enters") fd_Net_enters := fun_of F0_Net_enters
  have k_Net_enters := F_Net_enters.kp
  have m0_Net_enters : Meth K CN "enters" (He.ma K (He.ga K "Net") "enters") := by
    rw [← e_CN]
    exact He.meth_ok (c.t.d.fact 94 (f := .meth "Net" "enters") rfl)
  have a_Net_enters := m0_Net_enters.1
  have i_Net_enters := m0_Net_enters.2
  have b_Net_enters := F_Net_enters.binds (ps := ["self"]) fun _ _ _ _ _ _ us hl => match us, hl with | [_], _ => rfl
  obtain ⟨fd_Net_out, F0_Net_out⟩ := c.t.d.def_ 79 (d := dd_Net_out) rfl
  have F_Net_out : Fun K "out" "Net.out" s_Net_out (He.ma K (He.ga K "Net") "out") fd_Net_out := fun_of F0_Net_out
  have k_Net_out := F_Net_out.kp
  have m0_Net_out : Meth K CN "out" (He.ma K (He.ga K "Net") "out") := by
    rw [← e_CN]
    exact He.meth_ok (c.t.d.fact 95 (f := .meth "Net" "out") rfl)
  have a_Net_out := m0_Net_out.1
  have i_Net_out := m0_Net_out.2
  have b_Net_out := F_Net_out.binds (ps := ["self"]) fun _ _ _ _ _ _ us hl => match us, hl with | [_], _ => rfl
  obtain ⟨fd_Net___eq__, F0_Net___eq__⟩ := c.t.d.def_ 80 (d := dd_Net___eq__) rfl
  have F_Net___eq__ : Fun K "__eq__" "Net.__eq__" s_Net___eq__ (He.ma K (He.ga K "Net") "__eq__") fd_Net___eq__ := fun_of F0_Net___eq__
  have k_Net___eq__ := F_Net___eq__.kp
  have m0_Net___eq__ : Meth K CN "__eq__" (He.ma K (He.ga K "Net") "__eq__") := by
    rw [← e_CN]
    exact He.meth_ok (c.t.d.fact 96 (f := .meth "Net" "__eq__") rfl)
  have a_Net___eq__ := m0_Net___eq__.1
  have i_Net___eq__ := m0_Net___eq__.2
  have b_Net___eq__ := F_Net___eq__.binds (ps := ["self", "other"]) fun _ _ _ _ _ _ us hl => match us, hl with | [_, _], _ => rfl
  obtain ⟨fd_Net___init__, F0_Net___init__⟩ := c.t.d.def_ 81 (d := dd_Net___init__) rfl
  have F_Net___init__ : Fun K "__init__" "Net.__init__" s_Net___init__ (He.ma K (He.ga K "Net") "__init__") fd_Net___init__ := fun_of F0_Net___init__
  have k_Net___init__ := F_Net___init__.kp
  have m0_Net___init__ : Meth K CN "__init__" (He.ma K (He.ga K "Net") "__init__") := by
    rw [← e_CN]
    exact He.meth_ok (c.t.d.fact 97 (f := .meth "Net" "__init__") rfl)
  have a_Net___init__ := m0_Net___init__.1
  have i_Net___init__ := m0_Net___init__.2
  have b_Net___init__ := F_Net___init__.binds (ps := ["self", "forms", "enters", "rows", "holds", "out"]) fun _ _ _ _ _ _ us hl => match us, hl with | [_, _, _, _, _, _], _ => rfl
  have aC_CE : PySem.W.nsIn K mainGlobals "EchoError" = some (some (.ref CE)) := by
    rw [← e_CE]
    exact He.eqO_ok (c.t.d.fact 98 (f := .glo "EchoError") rfl)
  have aC_CB : PySem.W.nsIn K mainGlobals "BadNet" = some (some (.ref CB)) := by
    rw [← e_CB]
    exact He.eqO_ok (c.t.d.fact 99 (f := .glo "BadNet") rfl)
  have ei_CB : PySem.W.excInitIn K (He.ga K "BadNet") PySem.ErrX.bmA "ArithmeticError.__new__" = true := of_decide_eq_true (ex_at c.more (i := 0) (b := decide (PySem.W.excInitIn K (He.ga K "BadNet") PySem.ErrX.bmA "ArithmeticError.__new__" = true)) rfl)
  rw [e_CB] at ei_CB
  have eo_CB : PySem.W.excOver K (He.ga K "BadNet") PySem.ErrX.bmA = true := of_decide_eq_true (ex_at c.more (i := 1) (b := decide (PySem.W.excOver K (He.ga K "BadNet") PySem.ErrX.bmA = true)) rfl)
  rw [e_CB] at eo_CB
  have sa_CB : PySem.W.findIn K (.ref (He.ga K "BadNet")) "__setattr__" = some (some (.builtin "object.__setattr__")) := of_decide_eq_true (ex_at c.more (i := 2) (b := decide (PySem.W.findIn K (.ref (He.ga K "BadNet")) "__setattr__" = some (some (.builtin "object.__setattr__")))) rfl)
  rw [e_CB] at sa_CB
  have ga_CB : PySem.W.findIn K (.ref (He.ga K "BadNet")) "__getattribute__" = some (some (.builtin "BaseException.__getattribute__")) := of_decide_eq_true (ex_at c.more (i := 3) (b := decide (PySem.W.findIn K (.ref (He.ga K "BadNet")) "__getattribute__" = some (some (.builtin "BaseException.__getattribute__")))) rfl)
  rw [e_CB] at ga_CB
  have gg_CB : PySem.W.findIn K (.ref (He.ga K "BadNet")) "__getattr__" = some none := of_decide_eq_true (ex_at c.more (i := 4) (b := decide (PySem.W.findIn K (.ref (He.ga K "BadNet")) "__getattr__" = some none)) rfl)
  rw [e_CB] at gg_CB
  have kC_CB : PySem.W.keepIn K (.ref (He.ga K "BadNet")) = true := of_decide_eq_true (ex_at c.more (i := 5) (b := decide (PySem.W.keepIn K (.ref (He.ga K "BadNet")) = true)) rfl)
  rw [e_CB] at kC_CB
  have ex_CB : PySem.W.subIn K (.ref (He.ga K "BadNet")) (.type "BaseException") = some true := of_decide_eq_true (ex_at c.more (i := 6) (b := decide (PySem.W.subIn K (.ref (He.ga K "BadNet")) (.type "BaseException") = some true)) rfl)
  rw [e_CB] at ex_CB
  have ty_CB : PySem.W.typeIn K (.ref (He.ga K "BadNet")) = some (.type "type") := of_decide_eq_true (ex_at c.more (i := 7) (b := decide (PySem.W.typeIn K (.ref (He.ga K "BadNet")) = some (.type "type"))) rfl)
  rw [e_CB] at ty_CB
  have hd_CB : PySem.W.hasDictIn K (He.ga K "BadNet") = true := of_decide_eq_true (ex_at c.more (i := 8) (b := decide (PySem.W.hasDictIn K (He.ga K "BadNet") = true)) rfl)
  rw [e_CB] at hd_CB
  have ha_CB : PySem.W.findIn K (.ref (He.ga K "BadNet")) "__class__" = some (some (.builtin "object.__class__")) := of_decide_eq_true (ex_at c.more (i := 9) (b := decide (PySem.W.findIn K (.ref (He.ga K "BadNet")) "__class__" = some (some (.builtin "object.__class__")))) rfl)
  rw [e_CB] at ha_CB
  have hn_CB : PySem.W.specialIn K (.builtin "object.__class__") "__get__" = some (some (.builtin "getset_descriptor.__get__")) := of_decide_eq_true (ex_at c.more (i := 10) (b := decide (PySem.W.specialIn K (.builtin "object.__class__") "__get__" = some (some (.builtin "getset_descriptor.__get__")))) rfl)
  have ht_CB : PySem.W.takesIn K (.builtin "object.__class__") = some true := of_decide_eq_true (ex_at c.more (i := 11) (b := decide (PySem.W.takesIn K (.builtin "object.__class__") = some true)) rfl)
  have hm_CB : PySem.W.mroIn K (He.ga K "BadNet") (.type "object") = some true := of_decide_eq_true (ex_at c.more (i := 12) (b := decide (PySem.W.mroIn K (He.ga K "BadNet") (.type "object") = some true)) rfl)
  rw [e_CB] at hm_CB
  have iC_CB : PySem.W.findIn K (.ref (He.ga K "BadNet")) "__init__" = some (some (.ref (iniA K "BadNet"))) := of_decide_eq_true (ex_at c.more (i := 13) (b := decide (PySem.W.findIn K (.ref (He.ga K "BadNet")) "__init__" = some (some (.ref (iniA K "BadNet"))))) rfl)
  rw [e_CB] at iC_CB
  have tC_CB : PySem.W.typeIn K (.ref (iniA K "BadNet")) = some (.type "function") := of_decide_eq_true (ex_at c.more (i := 14) (b := decide (PySem.W.typeIn K (.ref (iniA K "BadNet")) = some (.type "function"))) rfl)
  have nf_CB : PySem.W.findIn K (.ref (He.ga K "BadNet")) "part" = some none := of_decide_eq_true (ex_at c.more (i := 15) (b := decide (PySem.W.findIn K (.ref (He.ga K "BadNet")) "part" = some none)) rfl)
  rw [e_CB] at nf_CB
  have su_CB : PySem.W.ks_superIn K (He.ga K "BadNet") (He.ga K "BadNet") "__init__" = some (some (.builtin "ArithmeticError.__init__")) := of_decide_eq_true (ex_at c.more (i := 16) (b := decide (PySem.W.ks_superIn K (He.ga K "BadNet") (He.ga K "BadNet") "__init__" = some (some (.builtin "ArithmeticError.__init__")))) rfl)
  rw [e_CB] at su_CB
  have sA_CB : PySem.W.subIn K (.ref (He.ga K "BadNet")) (.type "ArithmeticError") = some true := of_decide_eq_true (ex_at c.more (i := 17) (b := decide (PySem.W.subIn K (.ref (He.ga K "BadNet")) (.type "ArithmeticError") = some true)) rfl)
  rw [e_CB] at sA_CB
  have sf_CB : PySem.W.mroIn K (He.ga K "BadNet") (.ref (He.ga K "BadNet")) = some true := of_decide_eq_true (ex_at c.more (i := 18) (b := decide (PySem.W.mroIn K (He.ga K "BadNet") (.ref (He.ga K "BadNet")) = some true)) rfl)
  rw [e_CB] at sf_CB
  have th_CB : PySem.W.nsIn K cStatics "thirdparty.any" = some none := of_decide_eq_true (ex_at c.more (i := 19) (b := decide (PySem.W.nsIn K cStatics "thirdparty.any" = some none)) rfl)
  have ms_CB : PySem.W.nsIn K mainGlobals "super" = some none := of_decide_eq_true (ex_at c.more (i := 20) (b := decide (PySem.W.nsIn K mainGlobals "super" = some none)) rfl)
  obtain ⟨cc_CB, dV_CB, ih_CB⟩ := errD_ok (d := ed_CB) hfile (ini_at c.ini (i := 0) rfl) (ex_at c.more (i := 21) (b := ed_CB.ok K) rfl)
  have EC_CB : PySem.ErrX.ErrC K mg "BadNet" CB := ⟨PySem.W.mg_of X G aC_CB, ei_CB, eo_CB, sa_CB, ga_CB, gg_CB, kC_CB, ex_CB, ty_CB, hd_CB⟩
  have cl_CB := ih_CB.cell
  rw [show He.ga K ed_CB.x = CB from e_CB] at cl_CB
  have IC_CB : PySem.ErrX.IniC l.prog K mg CB (iniA K "BadNet") cc_CB "BadNet.__init__" "part" s_BadNet___init__ dV_CB := ⟨iC_CB, tC_CB, ih_CB.fn, cl_CB, nf_CB, su_CB, sA_CB, sf_CB, th_CB, PySem.W.mg_none_of X G ms_CB, htop⟩
  have XC_CB : ExcC K CB := ⟨ga_CB, gg_CB, ex_CB, hd_CB, ha_CB, hn_CB, ht_CB, hm_CB⟩
  have nb_xm : PySem.W.exmOne K (.ref (He.ga K "BadNet")) (.ref (He.ga K "BadNet")) = some true := of_decide_eq_true (ex_at c.more (i := 22) (b := decide (PySem.W.exmOne K (.ref (He.ga K "BadNet")) (.ref (He.ga K "BadNet")) = some true)) rfl)
  rw [e_CB] at nb_xm
  have nb_kE : PySem.W.kitOne K (.ref (He.ga K "BadNet")) (.ref (He.ga K "EchoError")) = some true := of_decide_eq_true (ex_at c.more (i := 23) (b := decide (PySem.W.kitOne K (.ref (He.ga K "BadNet")) (.ref (He.ga K "EchoError")) = some true)) rfl)
  rw [e_CE] at nb_kE
  rw [e_CB] at nb_kE
  have nb_nA : PySem.W.findIn K (.ref (He.ga K "BadNet")) "at" = some none := of_decide_eq_true (ex_at c.more (i := 24) (b := decide (PySem.W.findIn K (.ref (He.ga K "BadNet")) "at" = some none)) rfl)
  rw [e_CB] at nb_nA
  obtain ⟨fd_Form___init__, F0_Form___init__⟩ := c.t.d.def_ 82 (d := dd_Form___init__) rfl
  have F_Form___init__ : FunD K "__init__" "Form.__init__" (defArgs s_Form___init__) (defBody s_Form___init__) (defScope s_Form___init__) [V.non, V.int 0, V.str "half", V.str "wrap"] [] (He.ma K (He.ga K "Form") "__init__") fd_Form___init__ := F0_Form___init__
  have k_Form___init__ := F_Form___init__.kp
  have m0_Form___init__ : Meth K C "__init__" (He.ma K (He.ga K "Form") "__init__") := by
    rw [← e_C]
    exact He.meth_ok (c.t.d.fact 100 (f := .meth "Form" "__init__") rfl)
  have a_Form___init__ := m0_Form___init__.1
  have i_Form___init__ := m0_Form___init__.2
  obtain ⟨ds_Form4, dv_Form4, b_Form4⟩ := F_Form___init__.binds1 (ps := ["self", "width", "point", "manner", "ends"]) 5 4 (by simp) rfl fun _ _ _ _ _ _ _ us its h1 h2 => match us, its, h1, h2 with | [_, _, _, _, _], [_, _, _, _], _, _ => ⟨_, rfl, rfl⟩
  cases dv_Form4
  obtain ⟨tk_LEAST_WIDTH, gm_LEAST_WIDTH⟩ := He.int_ok X G (c.t.d.fact 101 (f := .int "LEAST_WIDTH" 2) rfl)
  obtain ⟨tk_GREATEST_WIDTH, gm_GREATEST_WIDTH⟩ := He.int_ok X G (c.t.d.fact 102 (f := .int "GREATEST_WIDTH" 64) rfl)
  obtain ⟨tk_GREATEST_POINT, gm_GREATEST_POINT⟩ := He.int_ok X G (c.t.d.fact 103 (f := .int "GREATEST_POINT" 64) rfl)
  obtain ⟨tk_MOST_FORMS, gm_MOST_FORMS⟩ := He.int_ok X G (c.t.d.fact 104 (f := .int "MOST_FORMS" 12) rfl)
  obtain ⟨tk_MOST_ROWS, gm_MOST_ROWS⟩ := He.int_ok X G (c.t.d.fact 105 (f := .int "MOST_ROWS" 60) rfl)
  obtain ⟨tk_MOST_HOLDS, gm_MOST_HOLDS⟩ := He.int_ok X G (c.t.d.fact 106 (f := .int "MOST_HOLDS" 6) rfl)
  obtain ⟨tk_FACTOR_END, gm_FACTOR_END⟩ := He.int_ok X G (c.t.d.fact 107 (f := .int "FACTOR_END" 9223372036854775808) rfl)
  obtain ⟨tk_GREATEST_SHIFT, gm_GREATEST_SHIFT⟩ := He.int_ok X G (c.t.d.fact 108 (f := .int "GREATEST_SHIFT" 64) rfl)
  obtain ⟨tk_GREATEST_ROW_POINT, gm_GREATEST_ROW_POINT⟩ := He.int_ok X G (c.t.d.fact 109 (f := .int "GREATEST_ROW_POINT" 200) rfl)
  have gm_ENDS : mg "ENDS" = some (.ref A_ENDS) := by
    rw [← e_A_ENDS]
    exact He.glo_ok X G (c.t.d.fact 110 (f := .glo "ENDS") rfl)
  have T_ENDS : ∀ H, SqT K H A_ENDS [V.str "wrap", V.str "stop"] := by
    rw [← e_A_ENDS]
    exact fun H => He.tupB_ok (ex_at c.more (i := 25) (b := He.tupB K "ENDS" [.str "wrap", .str "stop"]) rfl) H
  have gm_MANNERS : mg "MANNERS" = some (.ref A_MANNERS) := by
    rw [← e_A_MANNERS]
    exact He.glo_ok X G (c.t.d.fact 111 (f := .glo "MANNERS") rfl)
  obtain ⟨es_MANNERS, dn_MANNERS, KD_MANNERS⟩ := c.t.tab 0 (t := (fun K => He.ga K "MANNERS", ["down", "up", "in", "out", "half", "even", "far"])) rfl
  replace KD_MANNERS : KDict K w A_MANNERS es_MANNERS dn_MANNERS := by
    rw [← e_A_MANNERS]
    exact KD_MANNERS
  have d_MANNERS_down : PySem.W.nsIn K (He.ga K "MANNERS") "down" = some (some (.ref (He.ga K "downward"))) := of_decide_eq_true (ex_at c.more (i := 26) (b := decide (PySem.W.nsIn K (He.ga K "MANNERS") "down" = some (some (.ref (He.ga K "downward"))))) rfl)
  rw [e_A_MANNERS] at d_MANNERS_down
  have d_MANNERS_up : PySem.W.nsIn K (He.ga K "MANNERS") "up" = some (some (.ref (He.ga K "upward"))) := of_decide_eq_true (ex_at c.more (i := 27) (b := decide (PySem.W.nsIn K (He.ga K "MANNERS") "up" = some (some (.ref (He.ga K "upward"))))) rfl)
  rw [e_A_MANNERS] at d_MANNERS_up
  have d_MANNERS_in : PySem.W.nsIn K (He.ga K "MANNERS") "in" = some (some (.ref (He.ga K "inward"))) := of_decide_eq_true (ex_at c.more (i := 28) (b := decide (PySem.W.nsIn K (He.ga K "MANNERS") "in" = some (some (.ref (He.ga K "inward"))))) rfl)
  rw [e_A_MANNERS] at d_MANNERS_in
  have d_MANNERS_out : PySem.W.nsIn K (He.ga K "MANNERS") "out" = some (some (.ref (He.ga K "outward"))) := of_decide_eq_true (ex_at c.more (i := 29) (b := decide (PySem.W.nsIn K (He.ga K "MANNERS") "out" = some (some (.ref (He.ga K "outward"))))) rfl)
  rw [e_A_MANNERS] at d_MANNERS_out
  have d_MANNERS_half : PySem.W.nsIn K (He.ga K "MANNERS") "half" = some (some (.ref (He.ga K "nearest_greater"))) := of_decide_eq_true (ex_at c.more (i := 30) (b := decide (PySem.W.nsIn K (He.ga K "MANNERS") "half" = some (some (.ref (He.ga K "nearest_greater"))))) rfl)
  rw [e_A_MANNERS] at d_MANNERS_half
  have d_MANNERS_even : PySem.W.nsIn K (He.ga K "MANNERS") "even" = some (some (.ref (He.ga K "nearest_even"))) := of_decide_eq_true (ex_at c.more (i := 31) (b := decide (PySem.W.nsIn K (He.ga K "MANNERS") "even" = some (some (.ref (He.ga K "nearest_even"))))) rfl)
  rw [e_A_MANNERS] at d_MANNERS_even
  have d_MANNERS_far : PySem.W.nsIn K (He.ga K "MANNERS") "far" = some (some (.ref (He.ga K "nearest_far"))) := of_decide_eq_true (ex_at c.more (i := 32) (b := decide (PySem.W.nsIn K (He.ga K "MANNERS") "far" = some (some (.ref (He.ga K "nearest_far"))))) rfl)
  rw [e_A_MANNERS] at d_MANNERS_far
  have gm_POINT_RULES : mg "POINT_RULES" = some (.ref A_POINT_RULES) := by
    rw [← e_A_POINT_RULES]
    exact He.glo_ok X G (c.t.d.fact 112 (f := .glo "POINT_RULES") rfl)
  obtain ⟨es_POINT_RULES, dn_POINT_RULES, KD_POINT_RULES⟩ := c.t.tab 1 (t := (fun K => He.ga K "POINT_RULES", ["in", "old", "times", "plus", "less", "move", "keep"])) rfl
  replace KD_POINT_RULES : KDict K w A_POINT_RULES es_POINT_RULES dn_POINT_RULES := by
    rw [← e_A_POINT_RULES]
    exact KD_POINT_RULES
  have d_POINT_RULES_in : PySem.W.nsIn K (He.ga K "POINT_RULES") "in" = some (some (.ref (He.ga K "in_point"))) := of_decide_eq_true (ex_at c.more (i := 33) (b := decide (PySem.W.nsIn K (He.ga K "POINT_RULES") "in" = some (some (.ref (He.ga K "in_point"))))) rfl)
  rw [e_A_POINT_RULES] at d_POINT_RULES_in
  have d_POINT_RULES_old : PySem.W.nsIn K (He.ga K "POINT_RULES") "old" = some (some (.ref (He.ga K "old_point"))) := of_decide_eq_true (ex_at c.more (i := 34) (b := decide (PySem.W.nsIn K (He.ga K "POINT_RULES") "old" = some (some (.ref (He.ga K "old_point"))))) rfl)
  rw [e_A_POINT_RULES] at d_POINT_RULES_old
  have d_POINT_RULES_times : PySem.W.nsIn K (He.ga K "POINT_RULES") "times" = some (some (.ref (He.ga K "times_point"))) := of_decide_eq_true (ex_at c.more (i := 35) (b := decide (PySem.W.nsIn K (He.ga K "POINT_RULES") "times" = some (some (.ref (He.ga K "times_point"))))) rfl)
  rw [e_A_POINT_RULES] at d_POINT_RULES_times
  have d_POINT_RULES_plus : PySem.W.nsIn K (He.ga K "POINT_RULES") "plus" = some (some (.ref (He.ga K "sum_point"))) := of_decide_eq_true (ex_at c.more (i := 36) (b := decide (PySem.W.nsIn K (He.ga K "POINT_RULES") "plus" = some (some (.ref (He.ga K "sum_point"))))) rfl)
  rw [e_A_POINT_RULES] at d_POINT_RULES_plus
  have d_POINT_RULES_less : PySem.W.nsIn K (He.ga K "POINT_RULES") "less" = some (some (.ref (He.ga K "sum_point"))) := of_decide_eq_true (ex_at c.more (i := 37) (b := decide (PySem.W.nsIn K (He.ga K "POINT_RULES") "less" = some (some (.ref (He.ga K "sum_point"))))) rfl)
  rw [e_A_POINT_RULES] at d_POINT_RULES_less
  have d_POINT_RULES_move : PySem.W.nsIn K (He.ga K "POINT_RULES") "move" = some (some (.ref (He.ga K "move_point"))) := of_decide_eq_true (ex_at c.more (i := 38) (b := decide (PySem.W.nsIn K (He.ga K "POINT_RULES") "move" = some (some (.ref (He.ga K "move_point"))))) rfl)
  rw [e_A_POINT_RULES] at d_POINT_RULES_move
  have d_POINT_RULES_keep : PySem.W.nsIn K (He.ga K "POINT_RULES") "keep" = some (some (.ref (He.ga K "keep_point"))) := of_decide_eq_true (ex_at c.more (i := 39) (b := decide (PySem.W.nsIn K (He.ga K "POINT_RULES") "keep" = some (some (.ref (He.ga K "keep_point"))))) rfl)
  rw [e_A_POINT_RULES] at d_POINT_RULES_keep
  have gm_ROW_LENGTHS : mg "ROW_LENGTHS" = some (.ref A_ROW_LENGTHS) := by
    rw [← e_A_ROW_LENGTHS]
    exact He.glo_ok X G (c.t.d.fact 113 (f := .glo "ROW_LENGTHS") rfl)
  obtain ⟨es_ROW_LENGTHS, dn_ROW_LENGTHS, KD_ROW_LENGTHS⟩ := c.t.tab 2 (t := (fun K => He.ga K "ROW_LENGTHS", ["in", "old", "times", "plus", "less", "move", "keep"])) rfl
  replace KD_ROW_LENGTHS : KDict K w A_ROW_LENGTHS es_ROW_LENGTHS dn_ROW_LENGTHS := by
    rw [← e_A_ROW_LENGTHS]
    exact KD_ROW_LENGTHS
  obtain ⟨tk_ROW_LENGTHS_in, d_ROW_LENGTHS_in⟩ : ∃ t, PySem.W.nsIn K A_ROW_LENGTHS "in" = some (some (.int 1 t)) := by
    rw [← e_A_ROW_LENGTHS]
    exact val_int (i := 0) (ex_at c.more (i := 40) (b := He.valsB K (He.ga K "ROW_LENGTHS") [("in", .int 1), ("old", .int 2), ("times", .int 4), ("plus", .int 3), ("less", .int 3), ("move", .int 3), ("keep", .int 3)]) rfl) rfl
  obtain ⟨tk_ROW_LENGTHS_old, d_ROW_LENGTHS_old⟩ : ∃ t, PySem.W.nsIn K A_ROW_LENGTHS "old" = some (some (.int 2 t)) := by
    rw [← e_A_ROW_LENGTHS]
    exact val_int (i := 1) (ex_at c.more (i := 40) (b := He.valsB K (He.ga K "ROW_LENGTHS") [("in", .int 1), ("old", .int 2), ("times", .int 4), ("plus", .int 3), ("less", .int 3), ("move", .int 3), ("keep", .int 3)]) rfl) rfl
  obtain ⟨tk_ROW_LENGTHS_times, d_ROW_LENGTHS_times⟩ : ∃ t, PySem.W.nsIn K A_ROW_LENGTHS "times" = some (some (.int 4 t)) := by
    rw [← e_A_ROW_LENGTHS]
    exact val_int (i := 2) (ex_at c.more (i := 40) (b := He.valsB K (He.ga K "ROW_LENGTHS") [("in", .int 1), ("old", .int 2), ("times", .int 4), ("plus", .int 3), ("less", .int 3), ("move", .int 3), ("keep", .int 3)]) rfl) rfl
  obtain ⟨tk_ROW_LENGTHS_plus, d_ROW_LENGTHS_plus⟩ : ∃ t, PySem.W.nsIn K A_ROW_LENGTHS "plus" = some (some (.int 3 t)) := by
    rw [← e_A_ROW_LENGTHS]
    exact val_int (i := 3) (ex_at c.more (i := 40) (b := He.valsB K (He.ga K "ROW_LENGTHS") [("in", .int 1), ("old", .int 2), ("times", .int 4), ("plus", .int 3), ("less", .int 3), ("move", .int 3), ("keep", .int 3)]) rfl) rfl
  obtain ⟨tk_ROW_LENGTHS_less, d_ROW_LENGTHS_less⟩ : ∃ t, PySem.W.nsIn K A_ROW_LENGTHS "less" = some (some (.int 3 t)) := by
    rw [← e_A_ROW_LENGTHS]
    exact val_int (i := 4) (ex_at c.more (i := 40) (b := He.valsB K (He.ga K "ROW_LENGTHS") [("in", .int 1), ("old", .int 2), ("times", .int 4), ("plus", .int 3), ("less", .int 3), ("move", .int 3), ("keep", .int 3)]) rfl) rfl
  obtain ⟨tk_ROW_LENGTHS_move, d_ROW_LENGTHS_move⟩ : ∃ t, PySem.W.nsIn K A_ROW_LENGTHS "move" = some (some (.int 3 t)) := by
    rw [← e_A_ROW_LENGTHS]
    exact val_int (i := 5) (ex_at c.more (i := 40) (b := He.valsB K (He.ga K "ROW_LENGTHS") [("in", .int 1), ("old", .int 2), ("times", .int 4), ("plus", .int 3), ("less", .int 3), ("move", .int 3), ("keep", .int 3)]) rfl) rfl
  obtain ⟨tk_ROW_LENGTHS_keep, d_ROW_LENGTHS_keep⟩ : ∃ t, PySem.W.nsIn K A_ROW_LENGTHS "keep" = some (some (.int 3 t)) := by
    rw [← e_A_ROW_LENGTHS]
    exact val_int (i := 6) (ex_at c.more (i := 40) (b := He.valsB K (He.ga K "ROW_LENGTHS") [("in", .int 1), ("old", .int 2), ("times", .int 4), ("plus", .int 3), ("less", .int 3), ("move", .int 3), ("keep", .int 3)]) rfl) rfl
  have fx_ha : PySem.W.findIn K (.ref (He.ga K "Form")) "__class__" = some (some (.builtin "object.__class__")) := of_decide_eq_true (ex_at c.more (i := 41) (b := decide (PySem.W.findIn K (.ref (He.ga K "Form")) "__class__" = some (some (.builtin "object.__class__")))) rfl)
  rw [e_C] at fx_ha
  have fx_hn : PySem.W.specialIn K (.builtin "object.__class__") "__get__" = some (some (.builtin "getset_descriptor.__get__")) := of_decide_eq_true (ex_at c.more (i := 42) (b := decide (PySem.W.specialIn K (.builtin "object.__class__") "__get__" = some (some (.builtin "getset_descriptor.__get__")))) rfl)
  have fx_ht : PySem.W.takesIn K (.builtin "object.__class__") = some true := of_decide_eq_true (ex_at c.more (i := 43) (b := decide (PySem.W.takesIn K (.builtin "object.__class__") = some true)) rfl)
  have fx_hm : PySem.W.mroIn K (He.ga K "Form") (.type "object") = some true := of_decide_eq_true (ex_at c.more (i := 44) (b := decide (PySem.W.mroIn K (He.ga K "Form") (.type "object") = some true)) rfl)
  rw [e_C] at fx_hm
  have fx_kC : PySem.W.kitOne K (.ref (He.ga K "Form")) (.ref (He.ga K "Form")) = some true := of_decide_eq_true (ex_at c.more (i := 45) (b := decide (PySem.W.kitOne K (.ref (He.ga K "Form")) (.ref (He.ga K "Form")) = some true)) rfl)
  rw [e_C] at fx_kC
  have fy_ha : PySem.W.findIn K (.ref (He.ga K "Net")) "__class__" = some (some (.builtin "object.__class__")) := of_decide_eq_true (ex_at c.more (i := 46) (b := decide (PySem.W.findIn K (.ref (He.ga K "Net")) "__class__" = some (some (.builtin "object.__class__")))) rfl)
  rw [e_CN] at fy_ha
  have fy_hm : PySem.W.mroIn K (He.ga K "Net") (.type "object") = some true := of_decide_eq_true (ex_at c.more (i := 47) (b := decide (PySem.W.mroIn K (He.ga K "Net") (.type "object") = some true)) rfl)
  rw [e_CN] at fy_hm
  have fy_kC : PySem.W.kitOne K (.ref (He.ga K "Net")) (.ref (He.ga K "Net")) = some true := of_decide_eq_true (ex_at c.more (i := 48) (b := decide (PySem.W.kitOne K (.ref (He.ga K "Net")) (.ref (He.ga K "Net")) = some true)) rfl)
  rw [e_CN] at fy_kC
  have zf_isinstance : mg "isinstance" = none := He.free_ok X G (c.t.d.fact 114 (f := .free "isinstance") rfl)
  have zf_int : mg "int" = none := He.free_ok X G (c.t.d.fact 115 (f := .free "int") rfl)
  have zf_bool : mg "bool" = none := He.free_ok X G (c.t.d.fact 116 (f := .free "bool") rfl)
  have zf_abs : mg "abs" = none := He.free_ok X G (c.t.d.fact 117 (f := .free "abs") rfl)
  have zf_str : mg "str" = none := He.free_ok X G (c.t.d.fact 118 (f := .free "str") rfl)
  have zf_len : mg "len" = none := He.free_ok X G (c.t.d.fact 119 (f := .free "len") rfl)
  have zf_max : mg "max" = none := He.free_ok X G (c.t.d.fact 120 (f := .free "max") rfl)
  have zf_tuple : mg "tuple" = none := He.free_ok X G (c.t.d.fact 121 (f := .free "tuple") rfl)
  have zf_list : mg "list" = none := He.free_ok X G (c.t.d.fact 122 (f := .free "list") rfl)
  have zf_enumerate : mg "enumerate" = none := He.free_ok X G (c.t.d.fact 123 (f := .free "enumerate") rfl)
  have zf_range : mg "range" = none := He.free_ok X G (c.t.d.fact 124 (f := .free "range") rfl)
  have zf_all : mg "all" = none := He.free_ok X G (c.t.d.fact 125 (f := .free "all") rfl)
  have zf_zip : mg "zip" = none := He.free_ok X G (c.t.d.fact 126 (f := .free "zip") rfl)
  have zf_min : mg "min" = none := He.free_ok X G (c.t.d.fact 127 (f := .free "min") rfl)

  have z : Zs mg := ⟨zf_isinstance, zf_int, zf_bool, zf_abs, zf_str, zf_len, zf_max, zf_tuple, zf_list, zf_enumerate, zf_range, zf_all, zf_zip, zf_min⟩
  have e := hfa.symm.trans (PySem.W.mg_of X G a_law)
  cases e
  have FL_law : FunD K "law" "law" (defArgs s_law) (defBody s_law) (defScope s_law) [] [] (He.ga K "law") fd_law := F0_law
  have bl := FunD.bindsA (ps := ["_law_script"]) FL_law fun _ _ _ _ _ _ us hl => match us, hl with | [_], _ => rfl
  refine ⟨_, fun s v => bl s [v] rfl, fun base _ _ => ?_⟩
  have c_is_whole : Cal l.prog w K mg base 1 "is_whole" ["thing"] _ := ⟨_, _, PySem.W.mg_of X G a_is_whole, k_is_whole, b_is_whole, ok_is_whole (k := 0) F_is_whole z⟩
  have c_downward : Cal l.prog w K mg base 1 "downward" ["top", "bottom"] _ := ⟨_, _, PySem.W.mg_of X G a_downward, k_downward, b_downward, ok_downward (k := 0) F_downward⟩
  have c_upward : Cal l.prog w K mg base 1 "upward" ["top", "bottom"] _ := ⟨_, _, PySem.W.mg_of X G a_upward, k_upward, b_upward, ok_upward (k := 0) F_upward⟩
  have c_nearest_greater : Cal l.prog w K mg base 1 "nearest_greater" ["top", "bottom"] _ := ⟨_, _, PySem.W.mg_of X G a_nearest_greater, k_nearest_greater, b_nearest_greater, ok_nearest_greater (k := 0) F_nearest_greater⟩
  have MM : Mans l.prog w K mg base A_MANNERS es_MANNERS dn_MANNERS := ⟨gm_MANNERS, KD_MANNERS, fun m => match m with
    | .down => ⟨_, _, d_MANNERS_down, k_downward, b_downward, ok_downward (k := 1) F_downward⟩
    | .up => ⟨_, _, d_MANNERS_up, k_upward, b_upward, ok_upward (k := 1) F_upward⟩
    | .inn => ⟨_, _, d_MANNERS_in, k_inward, b_inward, ok_inward F_inward c_downward c_upward⟩
    | .out => ⟨_, _, d_MANNERS_out, k_outward, b_outward, ok_outward F_outward c_downward c_upward⟩
    | .half => ⟨_, _, d_MANNERS_half, k_nearest_greater, b_nearest_greater, ok_nearest_greater (k := 1) F_nearest_greater⟩
    | .even => ⟨_, _, d_MANNERS_even, k_nearest_even, b_nearest_even, ok_nearest_even F_nearest_even c_nearest_greater⟩
    | .far => ⟨_, _, d_MANNERS_far, k_nearest_far, b_nearest_far, ok_nearest_far F_nearest_far c_nearest_greater⟩⟩
  have c_is_manner : Cal l.prog w K mg base 1 "is_manner" ["thing"] _ := ⟨_, _, PySem.W.mg_of X G a_is_manner, k_is_manner, b_is_manner, ok_is_manner (k := 0) MM F_is_manner z⟩
  have c_rounded : Cal l.prog w K mg base 3 "rounded" ["value", "manner"] _ := ⟨_, _, PySem.W.mg_of X G a_rounded, k_rounded, b_rounded, ok_rounded MM F_rounded c_is_manner⟩
  have Z : FCst K mg A_ENDS := ⟨⟨_, gm_LEAST_WIDTH⟩, ⟨_, gm_GREATEST_WIDTH⟩, ⟨_, gm_GREATEST_POINT⟩, gm_ENDS, T_ENDS⟩
  have NC : NCst mg := ⟨⟨_, gm_FACTOR_END⟩, ⟨_, gm_GREATEST_SHIFT⟩, ⟨_, gm_GREATEST_ROW_POINT⟩, ⟨_, gm_MOST_FORMS⟩, ⟨_, gm_MOST_ROWS⟩, ⟨_, gm_MOST_HOLDS⟩⟩
  have c_is_width : Cal l.prog w K mg base 2 "is_width" ["thing"] _ := ⟨_, _, PySem.W.mg_of X G a_is_width, k_is_width, b_is_width, ok_is_width Z F_is_width c_is_whole⟩
  have c_is_point : Cal l.prog w K mg base 2 "is_point" ["thing"] _ := ⟨_, _, PySem.W.mg_of X G a_is_point, k_is_point, b_is_point, ok_is_point Z F_is_point z c_is_whole⟩
  have c_is_ends : Cal l.prog w K mg base 1 "is_ends" ["thing"] _ := ⟨_, _, PySem.W.mg_of X G a_is_ends, k_is_ends, b_is_ends, ok_is_ends (k := 0) Z F_is_ends z⟩
  have T : FTxt K mg C := ⟨⟨pg_C, hd_C, po_C, sa_C⟩, n_C_width, n_C_point, n_C_manner, n_C_ends⟩
  have TN : NTxt K mg CN := ⟨⟨pg_CN, hd_CN, po_CN, sa_CN⟩, n_CN_form_list, n_CN_enters_at, n_CN_row_list, n_CN_hold_list, n_CN_out_at, n_CN_point_list⟩
  have IC : IsC K mg C := ⟨PySem.W.mg_of X G aC_C, fx_ha, fx_hn, fx_ht, fx_hm, fx_kC⟩
  have IN : IsN K mg CN := ⟨PySem.W.mg_of X G aC_CN, fy_ha, fx_hn, fx_ht, fy_hm, fy_kC⟩
  have c_Form_4 : CalC l.prog w K mg base 3 "Form" C ["self", "width", "point", "manner", "ends"] [] _ := ⟨_, _, _, ⟨mk_C, a_Form___init__, i_Form___init__, kc_C⟩, PySem.W.mg_of X G aC_C, .nil, b_Form4, ok_Form___init__ T F_Form___init__ c_is_width c_is_point c_is_manner c_is_ends⟩
  have m_least : CalM l.prog w K mg base 1 C "least" ["self"] _ := ⟨_, _, ⟨a_Form_least, i_Form_least, k_Form_least⟩, b_Form_least, ok_Form_least (k := 0) T F_Form_least⟩
  have m_greatest : CalM l.prog w K mg base 1 C "greatest" ["self"] _ := ⟨_, _, ⟨a_Form_greatest, i_Form_greatest, k_Form_greatest⟩, b_Form_greatest, ok_Form_greatest (k := 0) T F_Form_greatest⟩
  have m_has : CalM l.prog w K mg base 2 C "has" ["self", "thing"] _ := ⟨_, _, ⟨a_Form_has, i_Form_has, k_Form_has⟩, b_Form_has, ok_Form_has T F_Form_has c_is_whole m_least m_greatest⟩
  have m_word_for : CalM l.prog w K mg base 3 C "word_for" ["self", "number"] _ := ⟨_, _, ⟨a_Form_word_for, i_Form_word_for, k_Form_word_for⟩, b_Form_word_for, ok_Form_word_for T F_Form_word_for m_has m_least m_greatest⟩
  have m_ended : CalM l.prog w K mg base 4 C "ended" ["self", "number"] _ := ⟨_, _, ⟨a_Form_ended, i_Form_ended, k_Form_ended⟩, b_Form_ended, ok_Form_ended T F_Form_ended m_word_for⟩
  have m_kept_at : CalM l.prog w K mg base 5 C "kept_at" ["self", "number", "point"] _ := ⟨_, _, ⟨a_Form_kept_at, i_Form_kept_at, k_Form_kept_at⟩, b_Form_kept_at, ok_Form_kept_at T F_Form_kept_at c_rounded m_ended⟩
  have c_is_place : Cal l.prog w K mg base 2 "is_place" ["thing", "many"] _ := ⟨_, _, PySem.W.mg_of X G a_is_place, k_is_place, b_is_place, ok_is_place F_is_place c_is_whole⟩
  have c_is_factor : Cal l.prog w K mg base 2 "is_factor" ["thing"] _ := ⟨_, _, PySem.W.mg_of X G a_is_factor, k_is_factor, b_is_factor, ok_is_factor NC F_is_factor z c_is_whole⟩
  have RU : Ruls l.prog w K mg base A_POINT_RULES es_POINT_RULES dn_POINT_RULES := ⟨gm_POINT_RULES, KD_POINT_RULES, fun k => match k with
    | .inn => ⟨_, _, d_POINT_RULES_in, k_in_point, b_in_point, ok_in_point F_in_point⟩
    | .old => ⟨_, _, d_POINT_RULES_old, k_old_point, b_old_point, ok_old_point z c_is_place F_old_point⟩
    | .times => ⟨_, _, d_POINT_RULES_times, k_times_point, b_times_point, ok_times_point NC z c_is_factor c_is_place F_times_point⟩
    | .plus => ⟨_, _, d_POINT_RULES_plus, k_sum_point, b_sum_point, ok_sum_point_plus z c_is_place F_sum_point⟩
    | .less => ⟨_, _, d_POINT_RULES_less, k_sum_point, b_sum_point, ok_sum_point_less z c_is_place F_sum_point⟩
    | .move => ⟨_, _, d_POINT_RULES_move, k_move_point, b_move_point, ok_move_point NC z c_is_whole c_is_place F_move_point⟩
    | .keep => ⟨_, _, d_POINT_RULES_keep, k_keep_point, b_keep_point, ok_keep_point z c_is_place F_keep_point⟩⟩
  have LE : Lens w K mg A_ROW_LENGTHS es_ROW_LENGTHS dn_ROW_LENGTHS := ⟨gm_ROW_LENGTHS, KD_ROW_LENGTHS, fun k => match k with
    | .inn => ⟨_, d_ROW_LENGTHS_in⟩
    | .old => ⟨_, d_ROW_LENGTHS_old⟩
    | .times => ⟨_, d_ROW_LENGTHS_times⟩
    | .plus => ⟨_, d_ROW_LENGTHS_plus⟩
    | .less => ⟨_, d_ROW_LENGTHS_less⟩
    | .move => ⟨_, d_ROW_LENGTHS_move⟩
    | .keep => ⟨_, d_ROW_LENGTHS_keep⟩⟩
  have c_is_written_as_row : Cal l.prog w K mg base 1 "is_written_as_row" ["thing"] _ := ⟨_, _, PySem.W.mg_of X G a_is_written_as_row, k_is_written_as_row, b_is_written_as_row, ok_is_written_as_row (k := 0) LE F_is_written_as_row z⟩
  have c_row_point : Cal l.prog w K mg base 4 "row_point" ["row", "points", "given"] _ := ⟨_, _, PySem.W.mg_of X G a_row_point, k_row_point, b_row_point, ok_row_point RU NC F_row_point z c_is_written_as_row⟩
  have c_check_length : Cal l.prog w K mg base 1 "check_length" ["thing", "part", "least", "most"] _ := ⟨_, _, PySem.W.mg_of X G a_check_length, k_check_length, b_check_length, ok_check_length (k := 0) F_check_length z⟩
  have c_check_forms : Cal l.prog w K mg base 2 "check_forms" ["forms"] _ := ⟨_, _, PySem.W.mg_of X G a_check_forms, k_check_forms, b_check_forms, ok_check_forms T IC NC F_check_forms z c_check_length⟩
  have c_is_hold : Cal l.prog w K mg base 3 "is_hold" ["thing", "forms"] _ := ⟨_, _, PySem.W.mg_of X G a_is_hold, k_is_hold, b_is_hold, ok_is_hold T F_is_hold z c_is_place m_has⟩
  have c_check_holds : Cal l.prog w K mg base 4 "check_holds" ["holds", "forms"] _ := ⟨_, _, PySem.W.mg_of X G a_check_holds, k_check_holds, b_check_holds, ok_check_holds NC F_check_holds z c_check_length c_is_hold⟩
  have c_checked_points : Cal l.prog w K mg base 5 "checked_points" ["rows", "given"] _ := ⟨_, _, PySem.W.mg_of X G a_checked_points, k_checked_points, b_checked_points, ok_checked_points NC F_checked_points z c_check_length c_row_point⟩
  have c_check_links : Cal l.prog w K mg base 3 "check_links" ["holds", "rows"] _ := ⟨_, _, PySem.W.mg_of X G a_check_links, k_check_links, b_check_links, ok_check_links F_check_links z c_is_place⟩
  have c_Net_5 : CalC l.prog w K mg base 6 "Net" CN ["self", "forms", "enters", "rows", "holds", "out"] [] _ := ⟨_, _, _, ⟨mk_CN, a_Net___init__, i_Net___init__, kc_CN⟩, PySem.W.mg_of X G aC_CN, .nil, b_Net___init__, ok_Net___init__ T TN F_Net___init__ z c_check_forms c_is_place c_check_holds c_checked_points c_check_links⟩
  have n_forms : CalM l.prog w K mg base 1 CN "forms" ["self"] _ := ⟨_, _, ⟨a_Net_forms, i_Net_forms, k_Net_forms⟩, b_Net_forms, ok_Net_forms (C := C) (k := 0) TN F_Net_forms z⟩
  have n_rows : CalM l.prog w K mg base 1 CN "rows" ["self"] _ := ⟨_, _, ⟨a_Net_rows, i_Net_rows, k_Net_rows⟩, b_Net_rows, ok_Net_rows (C := C) (k := 0) TN F_Net_rows z⟩
  have n_holds : CalM l.prog w K mg base 1 CN "holds" ["self"] _ := ⟨_, _, ⟨a_Net_holds, i_Net_holds, k_Net_holds⟩, b_Net_holds, ok_Net_holds (C := C) (k := 0) TN F_Net_holds z⟩
  have n_points : CalM l.prog w K mg base 1 CN "points" ["self"] _ := ⟨_, _, ⟨a_Net_points, i_Net_points, k_Net_points⟩, b_Net_points, ok_Net_points (C := C) (k := 0) TN F_Net_points z⟩
  have n_enters : CalM l.prog w K mg base 1 CN "enters" ["self"] _ := ⟨_, _, ⟨a_Net_enters, i_Net_enters, k_Net_enters⟩, b_Net_enters, ok_Net_enters (C := C) (k := 0) TN F_Net_enters⟩
  have c_enter_form : Cal l.prog w K mg base 2 "enter_form" ["net"] _ := ⟨_, _, PySem.W.mg_of X G a_enter_form, k_enter_form, b_enter_form, ok_enter_form TN F_enter_form n_forms n_enters⟩
  have c_sum_number : Cal l.prog w K mg base 1 "sum_number" ["row", "numbers", "points"] _ := ⟨_, _, PySem.W.mg_of X G a_sum_number, k_sum_number, b_sum_number, ok_sum_number (k := 0) F_sum_number z⟩
  have okR := ok_number_of_row (base := base) (P := l.prog) (w := w) T F_number_of_row m_kept_at c_sum_number
  have c_swept : Cal l.prog w K mg base 7 "swept" ["net", "heard", "held", "rule"] _ := ⟨_, _, PySem.W.mg_of X G a_swept, k_swept, b_swept, ok_swept okR k_number_of_row b_number_of_row TN F_swept n_forms n_points n_rows⟩
  have c_is_state : Cal l.prog w K mg base 3 "is_state" ["net", "thing"] _ := ⟨_, _, PySem.W.mg_of X G a_is_state, k_is_state, b_is_state, ok_is_state T TN F_is_state z n_forms n_holds m_has⟩
  have c_check_state : Cal l.prog w K mg base 4 "check_state" ["net", "state"] _ := ⟨_, _, PySem.W.mg_of X G a_check_state, k_check_state, b_check_state, ok_check_state F_check_state c_is_state⟩
  have c_check_word : Cal l.prog w K mg base 3 "check_word" ["net", "word"] _ := ⟨_, _, PySem.W.mg_of X G a_check_word, k_check_word, b_check_word, ok_check_word T F_check_word c_enter_form m_has⟩
  have c_state_behind : Cal l.prog w K mg base 2 "state_behind" ["net", "numbers"] _ := ⟨_, _, PySem.W.mg_of X G a_state_behind, k_state_behind, b_state_behind, ok_state_behind TN F_state_behind z n_holds⟩
  have c_turn_of : Cal l.prog w K mg base 8 "turn_of" ["net", "state", "word"] _ := ⟨_, _, PySem.W.mg_of X G a_turn_of, k_turn_of, b_turn_of, ok_turn_of (PySem.W.mg_of X G a_number_of_row) F_turn_of c_swept c_state_behind⟩
  have c_turned : Cal l.prog w K mg base 9 "turned" ["net", "state", "word"] _ := ⟨_, _, PySem.W.mg_of X G a_turned, k_turned, b_turned, ok_turned F_turned c_check_state c_check_word c_turn_of⟩
  have n_out : CalM l.prog w K mg base 1 CN "out" ["self"] _ := ⟨_, _, ⟨a_Net_out, i_Net_out, k_Net_out⟩, b_Net_out, ok_Net_out (C := C) (k := 0) TN F_Net_out⟩
  have IB := badnet_ini (P := l.prog) (w := w) nb_nA ih_CB.dfl EC_CB IC_CB
  have cx_check_length : CalX l.prog w K mg base 3 "check_length" ["thing", "part", "least", "most"] [] _ := ⟨_, _, _, PySem.W.mg_of X G a_check_length, k_check_length, .nil, b_check_length, ok_check_lengthX EC_CB IB F_check_length z⟩
  have c_row_point : Cal l.prog w K mg base 4 "row_point" ["row", "points", "given"] _ := ⟨_, _, PySem.W.mg_of X G a_row_point, k_row_point, b_row_point, ok_row_pointX RU NC F_row_point z c_is_written_as_row⟩
  have cx_checked_points : CalX l.prog w K mg base 5 "checked_points" ["rows", "given"] [] _ := ⟨_, _, _, PySem.W.mg_of X G a_checked_points, k_checked_points, .nil, b_checked_points, ok_checked_pointsX EC_CB IB NC F_checked_points z cx_check_length c_row_point⟩
  have cx_Net_5 : CalCX l.prog w K mg base 6 "Net" CN ["self", "forms", "enters", "rows", "holds", "out"] [] _ := ⟨_, _, _, ⟨mk_CN, a_Net___init__, i_Net___init__, kc_CN⟩, PySem.W.mg_of X G aC_CN, .nil, b_Net___init__, ok_Net___init__R T TN F_Net___init__ z c_check_forms c_is_place c_check_holds cx_checked_points c_check_links⟩
  have c_spelled : Cal l.prog w K mg base 1 "spelled" ["number"] _ := ⟨_, _, PySem.W.mg_of X G a_spelled, k_spelled, b_spelled, ok_spelled (k := 0) F_spelled⟩
  have c_put_times : Cal l.prog w K mg base 2 "put_times" ["rows", "factor", "more", "at"] _ := ⟨_, _, PySem.W.mg_of X G a_put_times, k_put_times, b_put_times, ok_put_times F_put_times z c_spelled⟩
  have c_renumbered : Cal l.prog w K mg base 1 "renumbered" ["row", "forms", "rows", "holds"] _ := ⟨_, _, PySem.W.mg_of X G a_renumbered, k_renumbered, b_renumbered, ok_renumbered (k := 0) F_renumbered⟩
  have cx_without_times : CalX l.prog w K mg base 8 "without_times" ["net"] [] _ := ⟨_, _, _, PySem.W.mg_of X G a_without_times, k_without_times, .nil, b_without_times, ok_without_times TN F_without_times z n_rows n_forms n_holds n_enters n_out cx_Net_5 c_put_times c_renumbered⟩
  have XX : Errs38 K mg CE CB := ⟨PySem.W.mg_of X G aC_CE, PySem.W.mg_of X G aC_CB, XC_CB, nb_xm, nb_kE, nf_CB, nb_nA⟩
  have okE := ok_Form___eq__ (P := l.prog) (w := w) (base := base) (k := 0) T IC F_Form___eq__ z
  have OQ : OwnQ K C _ _ := ⟨a_Form___eq__, i_Form___eq__, b_Form___eq__⟩
  have okN := ok_Net___eq__ (P := l.prog) (w := w) (base := base) TN IN okE OQ F_Net___eq__ z
  have ON : OwnQ K CN _ _ := ⟨a_Net___eq__, i_Net___eq__, b_Net___eq__⟩
  have c__law_cell_at : Cal l.prog w K mg base 1 "_law_cell_at" ["_law_script", "_law_k"] _ := ⟨_, _, PySem.W.mg_of X G a__law_cell_at, k__law_cell_at, b__law_cell_at, ok_cell (k := 0) F__law_cell_at z.len⟩
  have c__law_well : Cal l.prog w K mg base 1 "_law_well" ["_law_cell"] _ := ⟨_, _, PySem.W.mg_of X G a__law_well, k__law_well, b__law_well, ok_well (k := 0) F__law_well z.int⟩
  have c__law_draw : Cal l.prog w K mg base 1 "_law_draw" ["_law_well_here", "_law_many"] _ := ⟨_, _, PySem.W.mg_of X G a__law_draw, k__law_draw, b__law_draw, ok_draw (k := 0) F__law_draw⟩
  have c__law_form : Cal l.prog w K mg base 2 "_law_form" ["_law_well_here", "_law_widths"] _ := ⟨_, _, PySem.W.mg_of X G a__law_form, k__law_form, b__law_form, ok__law_form F__law_form z c__law_draw⟩
  have c__law_word : Cal l.prog w K mg base 2 "_law_word" ["_law_form_here", "_law_well_here"] _ := ⟨_, _, PySem.W.mg_of X G a__law_word, k__law_word, b__law_word, ok__law_word F__law_word c__law_draw⟩
  have c__law_coefficient : Cal l.prog w K mg base 2 "_law_coefficient" ["_law_well_here"] _ := ⟨_, _, PySem.W.mg_of X G a__law_coefficient, k__law_coefficient, b__law_coefficient, ok__law_coefficient F__law_coefficient c__law_draw⟩
  have c__law_leaf : Cal l.prog w K mg base 2 "_law_leaf" ["_law_well_here", "_law_held"] _ := ⟨_, _, PySem.W.mg_of X G a__law_leaf, k__law_leaf, b__law_leaf, ok__law_leaf F__law_leaf z c__law_draw⟩
  have c__law_begun : Cal l.prog w K mg base 3 "_law_begun" ["_law_well_here", "_law_held"] _ := ⟨_, _, PySem.W.mg_of X G a__law_begun, k__law_begun, b__law_begun, ok__law_begun F__law_begun z c__law_draw c__law_leaf⟩
  have c__law_point : Cal l.prog w K mg base 1 "_law_point" ["_law_row", "_law_points", "_law_forms", "_law_enters", "_law_held"] _ := ⟨_, _, PySem.W.mg_of X G a__law_point, k__law_point, b__law_point, ok__law_point (k := 0) F__law_point z⟩
  have c__law_one_more : Cal l.prog w K mg base 3 "_law_one_more" ["_law_well_here", "_law_rows", "_law_points", "_law_forms", "_law_held"] _ := ⟨_, _, PySem.W.mg_of X G a__law_one_more, k__law_one_more, b__law_one_more, ok__law_one_more F__law_one_more z c__law_draw c__law_coefficient c__law_leaf⟩
  have c__law_filled : Cal l.prog w K mg base 4 "_law_filled" ["_law_well_here", "_law_net_here", "_law_many"] _ := ⟨_, _, PySem.W.mg_of X G a__law_filled, k__law_filled, b__law_filled, ok__law_filled F__law_filled z c__law_one_more c__law_point⟩
  have c__law_links : Cal l.prog w K mg base 3 "_law_links" ["_law_well_here", "_law_net_here"] _ := ⟨_, _, PySem.W.mg_of X G a__law_links, k__law_links, b__law_links, ok__law_links F__law_links z c__law_draw c__law_word⟩
  have c__law_built_of : Cal l.prog w K mg base 5 "_law_built_of" ["_law_well_here", "_law_forms", "_law_enters", "_law_held", "_law_most"] _ := ⟨_, _, PySem.W.mg_of X G a__law_built_of, k__law_built_of, b__law_built_of, ok__law_built_of F__law_built_of z c__law_draw c__law_point c__law_begun c__law_filled c__law_links⟩
  have c__law_net : Cal l.prog w K mg base 6 "_law_net" ["_law_well_here", "_law_widths", "_law_most"] _ := ⟨_, _, PySem.W.mg_of X G a__law_net, k__law_net, b__law_net, ok__law_net F__law_net z c__law_draw c__law_form c__law_built_of⟩
  have c__law_made : Cal l.prog w K mg base 8 "_law_made" ["_law_net_here"] _ := ⟨_, _, PySem.W.mg_of X G a__law_made, k__law_made, b__law_made, ok__law_made F__law_made z c_Form_4 c_Net_5⟩
  have c__law_spelled : Cal l.prog w K mg base 1 "_law_spelled" ["_law_number"] _ := ⟨_, _, PySem.W.mg_of X G a__law_spelled, k__law_spelled, b__law_spelled, ok__law_spelled (k := 0) F__law_spelled⟩
  have c__law_again : Cal l.prog w K mg base 1 "_law_again" ["_law_row", "_law_places"] _ := ⟨_, _, PySem.W.mg_of X G a__law_again, k__law_again, b__law_again, ok__law_again (k := 0) F__law_again⟩
  have c__law_due : Cal l.prog w K mg base 2 "_law_due" ["_law_rows"] _ := ⟨_, _, PySem.W.mg_of X G a__law_due, k__law_due, b__law_due, ok__law_due F__law_due z c__law_again c__law_spelled⟩
  have c__law_amiss : Cal l.prog w K mg base 1 "_law_amiss" ["_law_net_here", "_law_rows"] _ := ⟨_, _, PySem.W.mg_of X G a__law_amiss, k__law_amiss, b__law_amiss, ok__law_amiss (k := 0) F__law_amiss z⟩
  have c__law_worth_alike : Cal l.prog w K mg base 1 "_law_worth_alike" ["_law_one", "_law_here", "_law_other", "_law_there"] _ := ⟨_, _, PySem.W.mg_of X G a__law_worth_alike, k__law_worth_alike, b__law_worth_alike, ok__law_worth_alike (k := 0) F__law_worth_alike z⟩
  have c__law_same : Cal l.prog w K mg base 10 "_law_same" ["_law_made_here", "_law_told", "_law_places", "_law_states"] _ := ⟨_, _, PySem.W.mg_of X G a__law_same, k__law_same, b__law_same, ok__law_same TN F__law_same z n_points c_turned c__law_worth_alike⟩
  have c__law_refused : Cal l.prog w K mg base 9 "_law_refused" ["_law_made_here"] _ := ⟨_, _, PySem.W.mg_of X G a__law_refused, k__law_refused, b__law_refused, ok__law_refused XX EC_CB cx_without_times F__law_refused z⟩
  have c__law_right : Cal l.prog w K mg base 9 "_law_right" ["_law_net_here", "_law_made_here", "_law_rows", "_law_places"] _ := ⟨_, _, PySem.W.mg_of X G a__law_right, k__law_right, b__law_right, ok__law_right TN okE OQ cx_without_times F__law_right z n_rows n_forms n_holds n_enters n_out⟩
  exact ok_law F_law z okN ON c__law_draw cx_without_times c__law_cell_at c__law_well c__law_net c__law_made c__law_due c__law_amiss c__law_refused c__law_right c__law_word c_turned c__law_same

end E1

open PySem PySem.W PySem.Calls PyProof.Rows
set_option maxRecDepth 100000 in
set_option maxHeartbeats 0 in
theorem PySem.Challenge.cw_echobound_k38_the_same_without_times_holds : PySem.Challenge.rw_echobound_k38_the_same_without_times.Holds := by
  w_on; o_law
  refine HandSHeadRun.head_any (r := OpenLaw.row PySem.Challenge.rw_echobound_k38_the_same_without_times) (q := HX.qv) (H := HX.hk) (ob := HX.ob) (M := 5668) (loose := HX.names) (d := HandSHeadRun.topDef (OpenLaw.row PySem.Challenge.rw_echobound_k38_the_same_without_times).prog 102) (kwd := []) HX.ob_eq (by kernel_rfl) (fun s => by kernel_rfl) HX.run (by kernel_rfl) (by kernel_rfl) (by kernel_rfl) (by rfl) (by first | assumption | decide +kernel) (by decide +kernel) ⟨rfl, rfl, rfl, rfl, rfl, by decide +kernel⟩ ?hw ?hc
  case hw => w_witness2
  case hc =>
    refine L2.walk_ofE (l := PySem.Challenge.rw_echobound_k38_the_same_without_times) (n := 63) (k := 11) (x := "_law_script") (CX := L2.CX0) rfl (by decide) (by kernel_rfl) ⟨rfl, by decide, by decide⟩ ?F (fun _ _ _ _ z => z)
    intro w mg fa h Y G hmg0
    obtain ⟨K, KX, c⟩ := Y
    have hmg : mg ("law" : PySem.Str) = some (.ref fa) := by
      have e : (HandSHeadRun.topDef (OpenLaw.row PySem.Challenge.rw_echobound_k38_the_same_without_times).prog 102).name = ("law" : PySem.Str) := by kernel_rfl
      rw [← e]
      exact hmg0
    obtain ⟨fd, hb, hF⟩ := E1.all_mk (l := PySem.Challenge.rw_echobound_k38_the_same_without_times) rfl rfl rfl rfl rfl rfl rfl rfl KX G hmg (by rfl) (by first | rfl | decide +kernel) c
    exact ⟨K, fd, E1.spLaw K, KX, hb, fun H a ns hl _ hS => ⟨a, ns, rfl, hS, hl, fun _ => rfl⟩, hF⟩
