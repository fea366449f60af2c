import PyProof.Rows.All
import Wide.All
import OpenK.AllK
import Wide.FinOn
import HandS.Codes
import HandS.ForMost
import HandS.Wide
import HandS.Zip
import HandS.IsInst
import HandS.Defaults
import HandS.Style
import HandS.ForExc
import HandS.Walk
import HandS.More
import HandS.CallLocal
import HandS.WideBits
import KE.BitLaws
import KE.KBits
import HandS.FStr
import PyProof.FitsInt
import HandS.TryOnly
import HandS.Star
import HandS.Flow
import HandS.OwnEq
import HandS.DeepEq
import HandS.Conv
import OpenK.KEqL
import KE.IntBitsLaws
import KE.GoesMore
import KE.KTurns
import HandS.Iter
import HandS.TupAny
import KE.KEqSeq
import HandS.Dict
import HandS.Set
import HandS.SetFor
import HandS.Strs
import HandS.ExcField
import HandS.ExcIs
import KE.KExcSuper
import KE.KExcInit
import KE.KExcIs
import HandS.Deep
import HandS.CallSlots
import KE.RegKSuper
import KE.RegKIsAll
import KE.RegKTryMore
import KE.KNestM
import HandS.EndTab
import KE.KStateDown
import HandS.Words
import HandS.WordsExc
import HandS.Head0
import HandS.Head1
import HandS.Head2
import HandS.HeadEnd
import HandS.HeadHook1
import HandS.HeadHook2
import HandS.HeadHook3
import HandS.HeadHook4
import PySem.Challenge.RW_echobound_k40_nets_freed
set_option Elab.async false
set_option linter.all false
set_option maxRecDepth 100000
set_option maxHeartbeats 4000000
namespace PySem
namespace ErrX
open PySem.W PySem.Calls PyProof.Rows PySem.HandSPX
abbrev bmA : List Value := [.type "ArithmeticError", .type "Exception", .type "BaseException", .type "object"]
/-- what the written part says of an error class under ArithmeticError -/
structure ErrC (K : Frag) (mg : Str → Option Value) (x : Str) (C : Addr) : Prop where
  gC : mg x = some (.ref C)
  ei : excInitIn K C bmA "ArithmeticError.__new__" = true
  eo : excOver K C bmA = true
  sa : findIn K (.ref C) "__setattr__" = some (some (.builtin "object.__setattr__"))
  ga : findIn K (.ref C) "__getattribute__" = some (some (.builtin "BaseException.__getattribute__"))
  gg : findIn K (.ref C) "__getattr__" = some none
  kC : keepIn K (.ref C) = true
  exC : subIn K (.ref C) (.type "BaseException") = some true
  tyC : typeIn K (.ref C) = some (.type "type")
  hdC : hasDictIn K C = true
/-- its __init__: super().__init__(f'..'), then one field of the same name as the parameter -/
structure IniC (prog : Program) (K : Frag) (mg : Str → Option Value) (C fI cc : Addr) (qual fld : Str) (st : Stmt) (dV : Value) : Prop where
  iC : findIn K (.ref C) "__init__" = some (some (.ref fI))
  tC : typeIn K (.ref fI) = some (.type "function")
  fn : ∃ (oc : Value) (od : Option Addr) (kV doc pm : Value) (an : Option Addr) (cda : Addr) (ct : Value) (osl : Array (Option Value)),
    K.lookup fI = some ⟨oc, od, .func (ksFn "__init__" qual (L2.defArgs st) (L2.defBody st) (L2.defScope st) dV kV doc pm an (.ref cda) ct cc), osl⟩ ∧ codeIn K (.ref cda) qual = true ∧
    ∃ (ccl : Value) (cdd : Option Addr) (vs : Array Value) (ccs : Array (Option Value)) (file : Str) (tf : Tok), K.lookup cda = some ⟨ccl, cdd, .fields vs, ccs⟩ ∧ vs[2]? = some (.str file tf) ∧ ((prog.main.file : Str) == file) = true
  cell : ∃ (cl : Value) (cld : Option Addr) (csl : Array (Option Value)), K.lookup cc = some ⟨cl, cld, .cell (some (.ref C)), csl⟩
  noF : findIn K (.ref C) fld = some none
  sup : ks_superIn K C C "__init__" = some (some (.builtin "ArithmeticError.__init__"))
  subA : subIn K (.ref C) (.type "ArithmeticError") = some true
  slf : mroIn K C (.ref C) = some true
  th : nsIn K cStatics "thirdparty.any" = some none
  msup : mg "super" = none
  top : (prog.main.scope.names.lookup ("super" : Str)).isSome = false
/-- the parts of the text -/
inductive FP (fld : Str) : Expr → Prop
  | c {x : Str} {j : Nat} {pos : Pos} (h : x.length ≤ 1000) : FP fld (.Constant (.str x) j pos)
  | f {p q : Pos} : FP fld (.FormattedValue (.Name fld p) (-1) none q)
/-- a value that is written as a text of at most a thousand signs -/
def FmtOk (v : Value) : Prop := (∃ y t, v = .str y t ∧ y.length ≤ 1000) ∨ ∃ i t, v = .int i t ∧ i.natAbs.log2 < 1920 ∧ (toString i : String).length ≤ 1000
section
variable {prog : Program} {w : World} {A : Around} {E : Value → Shared → Prop} {R : Result → Shared → Prop} {s : Shared} {K : Frag} {mg mb : Str → Option Value} {C fI cc : Addr} {qual fld : Str} {st : Stmt}
theorem joins_ok {env : Env} {m : Str → Option Value} {v : Value} (hk : env.scope.kind = .function) (hl : env.kindOf fld = some .local) (hd : (fld == ("__debug__" : Str)) = false) (hv : m fld = some v) (fv : FmtOk v) :
    ∀ (es : List Expr) (acc : Str) (s : Shared) (Q : Str → Shared → Prop), (∀ e ∈ es, FP fld e) → acc.length + 1000 * es.length ≤ 100000 → s.heap.Ns env.locals m →
      (∀ out tk, out.length ≤ 100000 → Q out { s with toks := tk }) → Joins (model prog w) A E (evalEach es env) acc Q s
  | [], acc, s, Q, _, hz, _, hq => by
    have e0 : evalEach [] env = [] := by first | rfl | simp [evalEach]
    rw [e0]
    have := hq acc s.toks (by simpa using hz)
    exact this
  | e :: es, acc, s, Q, hp, hz, hn, hq => by
    have e0 : evalEach (e :: es) env = eval e env :: evalEach es env := by first | rfl | simp [evalEach]
    rw [e0]
    have hp' : ∀ e ∈ es, FP fld e := fun e h => hp e (List.mem_cons_of_mem _ h)
    rw [List.length_cons] at hz
    have step : ∀ (y : Str) (t : Tok) (tk : Nat), y.length ≤ 1000 → ∃ y' t', Value.str y t = .str y' t' ∧ (acc ++ y').length ≤ sizeLine ∧ Joins (model prog w) A E (evalEach es env) (acc ++ y') Q { s with toks := tk } := fun y t tk hy => by
      have hlen : (acc ++ y).length = acc.length + y.length := by first | exact Str.length_append _ _ | simp
      refine ⟨y, t, rfl, ?_, ?_⟩
      · rw [hlen, sizeLine_eq]
        omega
      · exact joins_ok hk hl hd hv fv es (acc ++ y) { s with toks := tk } Q hp' (by rw [hlen]; omega) hn fun out tk' ho => hq out tk' ho
    show wpAny _ _ (eval e env) _ _ _
    cases hp e List.mem_cons_self with
    | c h => exact Calls.Constant_str (step _ _ _ h)
    | f =>
      refine wpAny_FormattedValue_plain (wpAny_Name (wpAny_loadName_local hk hl hn hv ?_) hd)
      rcases fv with ⟨y, t, rfl, hy⟩ | ⟨i, t, rfl, hi, hy⟩
      · exact wpAny_formatField_str (step y t s.toks hy) (step y _ _ hy) (by rw [sizeLine_eq]; omega)
      · exact wpAny_formatField_int hi (step _ _ _ (by rw [ofString_length]; exact hy))
end
end ErrX
end PySem

namespace PySem
namespace ErrX
open PySem.W PySem.Calls PyProof.Rows PySem.HandSPX
/-- a dict with one text for its key -/
theorem one_key {h : Heap} {dx : Addr} {fld : Str} {hs : Int} {tk : Tok} {v : Value} (e : h.get? dx = some (dictOf [⟨hs, .str fld tk, v⟩] 1)) : h.Ns1 dx (fun y => if y = fld then some v else none) := by
  refine ⟨_, _, _, e, rfl, fun d hd => ?_, List.pairwise_singleton _ _, fun y => ?_⟩
  · obtain rfl : d = ⟨hs, .str fld tk, v⟩ := by simpa using hd
    exact ⟨fld, tk, rfl⟩
  · by_cases z : y = fld
    · subst z
      simp [nsFind, findBy, Value.isStr]
    · simp [nsFind, findBy, Value.isStr, z, Ne.symm z]
/-- what __init__ leaves of a fresh error at x -/
structure IniEnd (h h' : Heap) (x C dx : Addr) (fld : Str) (v : Value) : Prop where
  keep : ∀ b o, b ≠ x → h.get? b = some o → h'.get? b = some o
  obj : ∃ t1 : Addr, h'.get? x = some { cls := .ref C, dict := some dx, data := .fields #[.ref t1, .none, .none, .none, .bool false, .none] }
  dbig : h.objs.size ≤ dx
  dne : dx ≠ x
  ns : h'.Ns1 dx (fun y => if y = fld then some v else none)
section
variable {prog : Program} {w : World} {A : Around} {E : Value → Shared → Prop} {R : Result → Shared → Prop} {s : Shared} {K : Frag} {mg : Str → Option Value} {C fI cc : Addr} {nm qual fld : Str} {st : Stmt}
abbrev iniScope (fld : Str) : Scope := { kind := .function, names := [(Str.ofString "self", .local), (fld, .local), (Str.ofString "__class__", .free), (Str.ofString "super", .globalImplicit)], isGenerator := false, isCoroutine := false, more := [] }
abbrev iniBody (fld : Str) (v1 v2 : Expr) (rest : List Expr) (p1 p2 p3 p4 p5 p6 q1 q2 q3 q4 : Pos) : List Stmt :=
  [.Expr (.Call (.Attribute (.Call (.Name "super" p1) [] [] p2) "__init__" p3) [.JoinedStr (v1 :: v2 :: rest) p4] [] p5) p6, .Assign [.Attribute (.Name "self" q1) fld q2] (.Name fld q3) q4]
/-- a field's name that is none of these -/
structure FldOk (fld : Str) : Prop where
  f1 : (fld == Str.ofString "self") = false
  f2 : (Str.ofString "__class__" == fld) = false
  f3 : (Str.ofString "super" == fld) = false
  f4 : (Str.ofString "self" == fld) = false
  f5 : (fld == Str.ofString "__debug__") = false
section
variable {fld : Str}
theorem lk_self : (iniScope fld).names.lookup (Str.ofString "self") = some .local := by
  rw [List.lookup_cons, beq_self_eq_true]
theorem lk_fld (O : FldOk fld) : (iniScope fld).names.lookup fld = some .local := by
  rw [List.lookup_cons, O.f1, List.lookup_cons, beq_self_eq_true]
theorem lk_cls (O : FldOk fld) : (iniScope fld).names.lookup (Str.ofString "__class__") = some .free := by
  rw [List.lookup_cons, show (Str.ofString "__class__" == Str.ofString "self") = false by decide +kernel, List.lookup_cons, O.f2, List.lookup_cons, beq_self_eq_true]
theorem lk_sup (O : FldOk fld) : (iniScope fld).names.lookup (Str.ofString "super") = some .globalImplicit := by
  rw [List.lookup_cons, show (Str.ofString "super" == Str.ofString "self") = false by decide +kernel, List.lookup_cons, O.f3, List.lookup_cons, show (Str.ofString "super" == Str.ofString "__class__") = false by decide +kernel, List.lookup_cons, beq_self_eq_true]
end
theorem err_init {s1 p1 p2 p3 p4 p5 p6 q1 q2 q3 q4 : Pos} {v1 v2 : Expr} {rest : List Expr} (EC : ErrC K mg nm C) {dV : Value} (IC : IniC prog K mg C fI cc qual fld st dV) (O : FldOk fld)
    (hbd : L2.defBody st = iniBody fld v1 v2 rest p1 p2 p3 p4 p5 p6 q1 q2 q3 q4)
    (hpar : ((L2.defArgs st).posonlyargs ++ (L2.defArgs st).args).head? = some { arg := "self", annotation := none, pos := s1 })
    (hps : ∀ e ∈ v1 :: v2 :: rest, FP fld e) (hlen : rest.length ≤ 20) (hpos : (p3.endLine == p5.line) = true) (hsc : L2.defScope st = iniScope fld)
    {x t0 : Addr} {v : Value} (MO : L2.Mod K mg s.heap) (hx : s.heap.get? x = some (excO C t0)) (hnx : K.lookup x = none) (hroom : A.depth < recursionLimit) (fv : FmtOk v)
    (hbind : ∀ kV doc pm an cda ct, BindsTo s (ksFn "__init__" qual (L2.defArgs st) (L2.defBody st) (L2.defScope st) dV kV doc pm an (.ref cda) ct cc) ⟨[.ref x, v], []⟩ [(Str.ofString "self", .ref x), (fld, v)])
    (hq : ∀ h' tk dx, IniEnd s.heap h' x C dx fld v → R (.ok (.ret .none)) { s with heap := h', toks := tk }) :
    codeAny (model prog w) A (.call (.ref fI) ⟨[.ref x, v], []⟩) R s := by
  obtain ⟨oc, od, kV, doc, pm, an, cda, ct, osl, ho, hcd, ccl, cdd, vs, ccs, file, tf, hcda, hvs, hfile⟩ := IC.fn
  have X := MO.kin
  have hb := hbind kV doc pm an cda ct
  rw [hbd, hsc] at ho hb
  obtain ⟨cl, cld, csl, hcell⟩ := IC.cell
  obtain ⟨mb, hmb, hmb2⟩ := MO.blt
  obtain ⟨nm', N', qn, bs, bm, hdct, sn, sub, ab, col, dd, k0, k1, k2, k3, k5, hC, hT⟩ := excInit_of X EC.ei
  obtain ⟨hp, g, d, t, os⟩ := s
  refine ks_codeAny_call_defAt (fd := ksFn "__init__" qual (L2.defArgs st) (iniBody fld v1 v2 rest p1 p2 p3 p4 p5 p6 q1 q2 q3 q4) (iniScope fld) dV kV doc pm an (.ref cda) ct cc) (body := iniBody fld v1 v2 rest p1 p2 p3 p4 p5 p6 q1 q2 q3 q4) (binds := [(Str.ofString "self", .ref x), (fld, v)])
    hroom (X _ _ ho) rfl MO.nolimit (codeRec_of X hcd) rfl hb ?_ ?_ (fun h₁ hns k => ?_)
  · intro y hy z
    have hy' : y ∈ (iniScope fld).names := hy
    simp only [List.mem_cons, List.not_mem_nil, or_false] at hy'
    rcases hy' with rfl | rfl | rfl | rfl <;> cases z
  · intro y hy
    simp only [List.mem_cons, List.not_mem_nil, or_false] at hy
    rcases hy with rfl | rfl
    · exact lk_self
    · exact lk_fld O
  · have X₁ : K.In h₁ := X.keeps k
    have hx₁ := k _ _ hx
    have hC₁ := k _ _ hC
    have mS : (fun y => [(Str.ofString "self", Value.ref x), (fld, v)].reverse.lookup y) (Str.ofString "self") = some (.ref x) := by
      show List.lookup (Str.ofString "self") [(fld, v), (Str.ofString "self", Value.ref x)] = _
      rw [List.lookup_cons, O.f4, List.lookup_cons, beq_self_eq_true]
    have mF : (fun y => [(Str.ofString "self", Value.ref x), (fld, v)].reverse.lookup y) fld = some v := by
      show List.lookup fld [(fld, v), (Str.ofString "self", Value.ref x)] = _
      rw [List.lookup_cons, beq_self_eq_true]
    refine ks_wpAt_execs_cons (ks_wpAt_Expr_any (ks_wpAt_MethodCall (pl := (do return (← importBound (.Call (.Name "super" p1) [] [] p2) (ksEnv qual (iniScope fld) hp.objs.size fI (.ref cda) cc)).getD true)) ?_ ?_))
    rotate_left
    · rw [arm_eval_Call]
      unfold methodCall
      have e2 : ∀ env : Env, methodCallPos (methodCallForm ([Expr.JoinedStr (v1 :: v2 :: rest) p4].length + ([] : List Keyword).length) (backTo p5 (starEach [Expr.JoinedStr (v1 :: v2 :: rest) p4] env)) (backToKw p5 (keywordEach [] env))) (.Call (.Name "super" p1) [] [] p2) env p3 p5 = pure p5 := fun env => by
        show (if (!true || p3.endLine == p5.line) = true then pure p5 else _) = _
        rw [hpos]
        rfl
      rw [e2]
      rfl
    refine ks_wpAt_super_base (f := fI) (cc := cda) (lk_sup O) (lk_cls O) (by decide +kernel) rfl (X₁ _ _ ho) rfl hpar rfl (X₁ _ _ hcda) rfl hvs hfile IC.top ?_
    refine ks_loadName_global rfl (lk_sup O) (loadGlobal_builtin (MO.glob.keeps k) IC.msup (hmb.keeps k) ((hmb2 "super" (by decide)).trans (show bootBuiltins "super" = some (.type "super") by decide +kernel)) ⟨rfl, ?_⟩)
    refine wpAny_loadName_free rfl (lk_cls O) rfl ⟨_, X₁ _ _ hcell, rfl⟩ ?_
    refine wpAny_loadName_local rfl lk_self hns mS ?_
    refine ks_wpAny_isType_cls hC₁ rfl ⟨rfl, ?_⟩
    refine ks_wpAny_call_super hC₁ rfl hx₁ rfl (fun c z => by cases z) (looks_mroIn X₁ IC.slf) (fun h₂ hso k₂ => ?_)
    have X₂ : K.In h₂ := X₁.keeps k₂
    have hx₂ := k₂ _ _ hx₁
    have I₂ : W.InstAt h₂ x (excO C t0) C none := ⟨hx₂, rfl, rfl, trivial⟩
    have hsup := IC.sup
    unfold ks_superIn at hsup
    cases hc : clsIn K C with
    | none =>
      rw [hc] at hsup
      cases hsup
    | some cd =>
    rw [hc] at hsup
    refine kxs_getMethod kxs_ArithmeticError hso (looks_opaque X₂ IC.th) (l₀ := cd.mro) (fun A Q E s k q => wpAny_bind ((looks_clsIn X₂ hc) A _ E s k (wpAny_pure q))) rfl X₂ hsup (I₂.type.andThen (looks_subIn X₂ IC.subA)) (ks_ne X₂ I₂ hc) (by decide +kernel) ?_
    have k₃ : ∀ b o, h₂.get? b = some o → (h₂.push (kxs_mw "ArithmeticError.__init__" x)).get? b = some o := fun b o e => Heap.get?_push_of_some _ e
    have hu : (h₂.push (kxs_mw "ArithmeticError.__init__" x)).get? h₂.objs.size = some (kxs_mw "ArithmeticError.__init__" x) := Heap.get?_push_at rfl rfl
    have kk : ∀ b o, hp.get? b = some o → (h₂.push (kxs_mw "ArithmeticError.__init__" x)).get? b = some o := fun b o e => k₃ _ _ (k₂ _ _ (k _ _ e))
    have hns₃ : (h₂.push (kxs_mw "ArithmeticError.__init__" x)).Ns hp.objs.size (fun y => [(Str.ofString "self", Value.ref x), (fld, v)].reverse.lookup y) := by
      obtain ⟨oL, es, ep, hL, r⟩ := hns
      exact ⟨oL, es, ep, k₃ _ _ (k₂ _ _ hL), r⟩
    have hx₃ := k₃ _ _ hx₂
    have hC₃ := kk _ _ hC
    have hsz : h₂.objs.size < (h₂.push (kxs_mw "ArithmeticError.__init__" x)).objs.size := Heap.lt_size hu
    generalize h₂.push (kxs_mw "ArithmeticError.__init__" x) = h₃ at *
    refine kxs_callWith (i := "ArithmeticError.__init__") (x := x) rfl (evalArgs_plain ?_)
    refine Calls.spliced_cons (wpAny_JoinedStr (pos := p4) (joins_ok (env := callEnv (ksFn "__init__" qual (L2.defArgs st) (iniBody fld v1 v2 rest p1 p2 p3 p4 p5 p6 q1 q2 q3 q4) (iniScope fld) dV kV doc pm an (.ref cda) ct cc) hp.objs.size fI) rfl (lk_fld O) O.f5 mF fv _ Str.empty _ _ hps ?_ hns₃ fun out tk ho => ⟨by rw [sizeLine_eq]; omega, ?_⟩))
    · rw [List.length_cons, List.length_cons]
      show 0 + 1000 * (rest.length + 1 + 1) ≤ 100000
      omega
    refine Calls.spliced_nil ⟨hu, ?_⟩
    -- the library's own rules, over the heap of the call with the error itself left out
    have xL : x ≠ hp.objs.size := Nat.ne_of_lt (Heap.lt_size hx)
    have nK : ∀ a o, K.lookup a = some o → a ∉ [x] := fun a o e z => by
      rw [List.mem_singleton.mp z, hnx] at e
      cases e
    have X₀ : K.In (hideAll hp [x]) := fun a o e => hideAll_get [x] (X a o e) (nK a o e)
    have F₃ : Fr (hideAll hp [x]) hp.objs.size h₃ (fun y => [(Str.ofString "self", Value.ref x), (fld, v)].reverse.lookup y) :=
      ⟨hns₃, fun b o e => kk b o (of_hideAll [x] e), Nat.le_of_eq (hideAll_size [x] hp)⟩
    have L₂ : hp.objs.size < h₂.objs.size := by
      obtain ⟨oL, es, ep, hL, _⟩ := hns
      exact Heap.lt_size (k₂ _ _ hL)
    have ux : h₂.objs.size ≠ x := Nat.ne_of_gt (Nat.lt_trans (Heap.lt_size hx) L₂)
    have uo : (hideAll hp [x]).get? h₂.objs.size = none := by
      cases e : (hideAll hp [x]).get? h₂.objs.size with
      | none => rfl
      | some o => exact absurd (Nat.lt_trans (Heap.lt_size (of_hideAll [x] e)) L₂) (Nat.lt_irrefl _)
    have N₃ : News (hideAll hp [x]) hp.objs.size h₃ [(h₂.objs.size, kxs_mw "ArithmeticError.__init__" x), (x, excObj C t0 none .none)] := fun p hp' => by
      rcases List.mem_cons.mp hp' with rfl | hp'
      · exact ⟨hu, Nat.ne_of_gt L₂, uo⟩
      · obtain rfl := List.mem_singleton.mp hp'
        exact ⟨hx₃, xL, hideAll_none [x] (List.mem_singleton.mpr rfl)⟩
    refine kxs_call F₃ X₀ N₃ F.excBase_ArithmeticError EC.ei List.mem_cons_self (.tail ux (.head fun p z => nomatch z)) (by show 1 ≤ sizeLine; decide) fun t1 h₄ F₄ N₄ lt₄ => ?_
    have X₄ : K.In h₄ := X₀.keeps F₄.keep
    have hx₄ : h₄.get? x = some (excO C t1) := (N₄ (x, excObj C t1 none .none) (by simp)).1
    have tx : t1 ≠ x := Nat.ne_of_gt (lt₄ (x, excObj C t0 none .none) (by simp))
    refine ks_wpAt_execs_cons (ks_wpAt_Assign_Attr (wpAt_of_wpAny (wpAny_Name (wpAny_loadName_local rfl (lk_fld O) F₄.ns mF ?_) O.f5)))
    refine wpAny_Name (wpAny_loadName_local rfl lk_self F₄.ns mS ?_) (by decide +kernel)
    refine set_plain X₄ (ox := excO C t1) (od := none) ⟨hx₄, rfl, rfl, trivial⟩ EC.sa ?_
    have free : takerIn K C fld = some none := by
      rw [takerIn, IC.noF]
      rfl
    refine osa_exc0 (pre := [(t1, _), (h₂.objs.size, _)]) (post := []) F.store_ArithmeticError F₄ N₄ X₄ EC.eo free EC.hdC (fun p z => ?_) (fun p z => nomatch z) (putName_dict _ _ _ _ _ _) rfl (by show 1 ≤ 1000; decide) fun dx h₅ F₅ N₅ lt₅ => ?_
    · rcases List.mem_cons.mp z with rfl | z
      · exact tx
      · obtain rfl := List.mem_singleton.mp z
        exact ux
    refine wpAt_of_wpAny (wpAny_execs_nil ?_)
    have xd : x < dx := lt₅ (x, excObj C t1 none .none) (by simp)
    have ud : h₂.objs.size < dx := lt₅ (h₂.objs.size, kxs_mw "ArithmeticError.__init__" x) (by simp)
    exact hq h₅ _ dx ⟨fun b o hb e => F₅.keep b o (hideAll_get [x] e fun z => hb (List.mem_singleton.mp z)), ⟨t1, (N₅ (x, excObj C t1 (some dx) .none) (by simp)).1⟩, Nat.le_of_lt (Nat.lt_trans L₂ ud), Nat.ne_of_gt xd, one_key (N₅ _ List.mem_cons_self).1⟩
end
end ErrX
end PySem

namespace PySem
namespace ErrX
open PySem.W PySem.Calls PyProof.Rows PySem.HandSPX
/-- a made error with one field -/
structure Made1 (h h' : Heap) (e C d : Addr) (fld : Str) (v : Value) : Prop where
  keep : ∀ b o, h.get? b = some o → h'.get? b = some o
  new : h.objs.size ≤ e
  obj : ∃ oe vs, h'.get? e = some oe ∧ oe.cls = .ref C ∧ oe.dict = some d ∧ oe.data = .fields vs ∧ vs[1]? = some .none
  dbig : h.objs.size ≤ d
  dne : d ≠ e
  ns : h'.Ns1 d (fun y => if y = fld then some v else none)
/-- its __init__ does as it should -/
structure IniOk (prog : Program) (w : World) (K : Frag) (mg : Str → Option Value) (C fI : Addr) (fld : Str) : Prop where
  iC : findIn K (.ref C) "__init__" = some (some (.ref fI))
  tC : typeIn K (.ref fI) = some (.type "function")
  run : ∀ (A : Around) (R : Result → Shared → Prop) (s : Shared) (x t0 : Addr) (v : Value), L2.Mod K mg s.heap → s.heap.get? x = some (excO C t0) → K.lookup x = none → A.depth < recursionLimit → FmtOk v →
    (∀ h' tk dx, IniEnd s.heap h' x C dx fld v → R (.ok (.ret .none)) { s with heap := h', toks := tk }) → codeAny (model prog w) A (.call (.ref fI) ⟨[.ref x, v], []⟩) R s
section
variable {prog : Program} {w : World} {A : Around} {E : Value → Shared → Prop} {R : Result → Shared → Prop} {s : Shared} {K : Frag} {mg : Str → Option Value} {C fI : Addr} {nm fld : Str}
theorem err_made (EC : ErrC K mg nm C) (IO : IniOk prog w K mg C fI fld) {v : Value} (MO : L2.Mod K mg s.heap) (hroom : A.depth + 1 < recursionLimit) (fv : FmtOk v)
    (hq : ∀ h' tk e d, Made1 s.heap h' e C d fld v → R (.ok (.ret (.ref e))) { s with heap := h', toks := tk }) :
    codeAny (model prog w) A (.call (.ref C) ⟨[v], []⟩) R s := by
  have X := MO.kin
  obtain ⟨nm', N', qn, bs, bm, hdct, sn, sub, ab, col, dd, k0, k1, k2, k3, k5, hC, hT⟩ := excInit_of X EC.ei
  obtain ⟨hp, g, dr, tk, os⟩ := s
  have k : ∀ b o, hp.get? b = some o → ((hp.push (kdv_tup [v])).push (excO C hp.objs.size)).get? b = some o := fun b o e => Heap.get?_push_of_some _ (Heap.get?_push_of_some _ e)
  have hget : ((hp.push (kdv_tup [v])).push (excO C hp.objs.size)).get? (hp.objs.size + 1) = some (excO C hp.objs.size) := by heap_get
  have hnx : K.lookup (hp.objs.size + 1) = none := by
    cases e : K.lookup (hp.objs.size + 1) with
    | none => rfl
    | some o =>
      have z : hp.get? (hp.objs.size + 1) = some o := X _ _ e
      exact absurd (Nat.lt_of_succ_lt (Heap.lt_size z)) (Nat.lt_irrefl _)
  have MO' : L2.Mod K mg ((hp.push (kdv_tup [v])).push (excO C hp.objs.size)) := by
    obtain ⟨mb, h1, h2⟩ := MO.blt
    exact ⟨X.keeps k, MO.glob.keeps k, ⟨mb, h1.keeps k, h2⟩, MO.nolimit.keeps k⟩
  refine call_own F.excBase_ArithmeticError hT hC (looks_findIn X IO.iC) (fun self => bind_fn X self IO.tC) (by show 1 ≤ sizeLine; decide) ?_
  refine IO.run _ _ ⟨(hp.push (kdv_tup [v])).push (excO C hp.objs.size), g, dr, tk, os⟩ _ _ _ MO' hget hnx ?_ fv fun h' tk' dx ⟨k', ⟨t1, hx⟩, dn, dne, hns⟩ => ?_
  · show A.depth + 1 < recursionLimit
    exact hroom
  · have old : ∀ b o, hp.get? b = some o → h'.get? b = some o := fun b o e => k' b o (Nat.ne_of_lt (Nat.lt_succ_of_lt (Heap.lt_size e))) (k b o e)
    have z : hp.objs.size + 1 + 1 ≤ dx := by
      first
        | (simpa only [Heap.size_push] using dn)
        | exact dn
        | (have q := dn; rw [Heap.size_push, Heap.size_push] at q; exact q)
    exact ⟨rfl, hq h' tk' (hp.objs.size + 1) dx ⟨old, Nat.le_succ _, ⟨_, _, hx, rfl, rfl, rfl, rfl⟩, Nat.le_trans (Nat.le_trans (Nat.le_succ _) (Nat.le_succ _)) z, dne, hns⟩⟩
end
end ErrX
end PySem
namespace E1
open PySem PySem.Spec PyProof.Rows L2
open PySem.ErrX (ErrC IniOk FmtOk)
/-- a value that is written as a text of at most a thousand signs -/
def VFmt (v : V) : Prop := (∃ y : Str, v = .str y ∧ y.length ≤ 1000) ∨ ∃ i : Int, v = .int i ∧ i.natAbs.log2 < 1920 ∧ (toString i : String).length ≤ 1000
theorem VFmt.ok {v : V} {u : Value} (h : VFmt v) (r : RelV v u) : FmtOk u := by
  rcases h with ⟨y, rfl, hy⟩ | ⟨i, rfl, hi, hy⟩
  · obtain ⟨t, rfl⟩ := (show ∃ t, u = Value.str y t from r)
    exact .inl ⟨y, t, rfl, hy⟩
  · obtain ⟨t, rfl⟩ := (show ∃ t, u = Value.int i t from r)
    exact .inr ⟨i, t, rfl, hi, hy⟩
theorem relO_one {fld : Str} {v : V} {v' : Value} (r : RelV v v') (f : Str) : RelO (List.lookup f [(fld, v)]) (if f = fld then some v' else none) := by
  by_cases hw : f = fld
  · subst hw
    rw [if_pos rfl]
    have q : List.lookup f [(f, v)] = some v := by simp [List.lookup]
    rw [q]
    exact r
  · rw [if_neg hw]
    have qw : (f == fld) = false := by simpa using hw
    have q2 : List.lookup f [(fld, v)] = none := by simp [List.lookup, qw]
    rw [q2]
    trivial
section
variable {X : Cx} {C fI : Addr} {x fld : Str}
/-- X(e), an error with one field -/
def tMkErr (C : Addr) (fld : Str) (ta : TA) : L2.St → Hp → XK → Prop := fun σ H Q => ta σ H fun vs H1 => ∃ v, vs = [v] ∧ VFmt v ∧ ∀ d, H1 d = none → Q (.ref C) (some d) (upd H1 d (.xd [(fld, v)]))
theorem pmk_err {a : Expr} {ta : TA} {p pos : Pos} {k : Nat} (EC : ErrC X.K X.mg x C) (IO : IniOk X.prog X.w X.K X.mg C fI fld) (hr : Room k X.A) (ha : PA X [a] ta) (hg : Gl X x := by rfl) (hdb : (x == ("__debug__" : Str)) = false := by decide)
    (he : starEach (a :: []) X.env = (false, eval a X.env) :: starEach [] X.env := by rfl) (hpl : (backTo pos (starEach [] X.env)).any (·.1) = false := by rfl) :
    PMk X (.Call (.Name x p) [a] [] pos) (tMkErr C fld ta) := by
  intro pins s σ H Q I h
  refine wpAny_Call_Name_kw (ld_glob I hg EC.gC ?_ hdb)
  refine PySem.W.callWith_K (h₀ := X.base) I.ok.mod.kin EC.kC (thn (ha.run pos pins s σ H _ I h) fun us s1 hh => ?_) he hpl
  obtain ⟨vs, H1, I1, r1, v, ev, fv, q1⟩ := hh
  subst ev
  refine ⟨I1.kIn, ?_⟩
  cases r1 with
  | cons rv rn =>
    rename_i v' us'
    cases rn
    show wpAny _ _ (call (.ref C) [v']) _ _ _
    have MO : Mod X.K X.mg s1.heap := by
      obtain ⟨mb, h1, h2⟩ := I1.mod.blt
      exact ⟨I1.kIn, I1.mod.glob.keeps I1.bk, ⟨mb, h1.keeps I1.bk, h2⟩, I1.nolimit⟩
    obtain ⟨hp, g, dr, tk, os⟩ := s1
    refine wpAny_call (PySem.ErrX.err_made EC IO MO (by have := hr.dp; omega) (fv.ok rv) fun h' tk' e d M => ?_)
    show MkP X pins σ Q (.ref e) ⟨h', g, dr, tk', os⟩
    obtain ⟨oe, fv', hoe, hc, hd, hdat, h1⟩ := M.obj
    have hns := M.ns
    obtain ⟨G', g1, g2⟩ := restrict h' fun b => decide (b ≠ e)
    have gk : ∀ b, b ≠ e → G'.get? b = h'.get? b := fun b hb => g1 b (decide_eq_true hb)
    have ge : G'.get? e = none := g2 e (by simp)
    have old : ∀ b o, hp.get? b = some o → G'.get? b = some o := fun b o q => (gk b (Nat.ne_of_lt (Nat.lt_of_lt_of_le (Heap.lt_size q) M.new))).trans (M.keep b o q)
    have ob : ObjOk X.prog X.w (upd H1 d (.xd [(fld, v)])) G' d (.xd [(fld, v)]) :=
      ⟨_, hns.at (fun o q => (gk d M.dne).trans q), fun f => relO_one rv f⟩
    have J : Inv X pins σ (upd H1 d (.xd [(fld, v)])) ⟨G', g, dr, tk', os⟩ := I1.laid (t' := tk') old M.dbig ob
    refine ⟨e, oe, fv', ⟨G', g, dr, tk', os⟩, _, .ref C, some d, rfl, J, fun b o q => ?_, ge, hoe, ⟨hc, hd⟩, hdat, h1, ?_, rfl, I1.bare, raises_own EC.exC EC.tyC, q1 d (I1.hok.fresh M.dbig)⟩
    · by_cases hb : b = e
      · have q' : G'.get? b = some o := q
        rw [hb, ge] at q'; cases q'
      · exact (gk b hb).symm.trans q
    · rw [upd_ne (Ne.symm M.dne)]
      exact I1.hok.fresh M.new
/-- raise X(e) -/
def tRaiseErr (C : Addr) (fld : Str) (W : WX) (ta : TA) : TS := fun _ σ H => tMkErr C fld ta σ H fun cls d H' => W cls d σ H'
theorem ps_raiseErr {a : Expr} {ta : TA} {W : WX} {p pos pos2 : Pos} {k : Nat} (hc : X.calm = true) (EC : ErrC X.K X.mg x C) (IO : IniOk X.prog X.w X.K X.mg C fI fld) (hr : Room k X.A) (tk : Takes X W) (ha : PA X [a] ta) (hg : Gl X x := by rfl) (hdb : (x == ("__debug__" : Str)) = false := by decide)
    (he : starEach (a :: []) X.env = (false, eval a X.env) :: starEach [] X.env := by rfl) (hpl : (backTo pos (starEach [] X.env)).any (·.1) = false := by rfl) :
    PS X (.Raise (some (.Call (.Name x p) [a] [] pos)) none pos2) (tRaiseErr C fld W ta) := ps_raise hc tk (pmk_err EC IO hr ha hg hdb he hpl)
/-- e.f of a caught error -/
theorem ErrC.xf {K : PySem.W.Frag} {mg : Str → Option Value} (EC : ErrC K mg x C) : XfC K C := ⟨EC.ga, EC.gg, EC.exC, EC.hdC⟩
end
end E1

namespace E1
open PySem PySem.Spec PyProof.Rows L2
open PySem.ErrX (ErrC IniOk FmtOk)
/-- isinstance(e, c), e the error that the suite holds, its class an own one -/
def rIsX (K : PySem.W.Frag) (a : Addr) (cls : Value) (d : Option Addr) : List V → Hp → VK → Prop := fun xs H Q => ∃ (D : Addr) (c : V) (cv : Value) (b : Bool), cls = .ref D ∧ ExcC K D ∧ xs = [.ref a, c] ∧ (∀ u, RelV c u → u = cv) ∧
  (∀ dd, d = some dd → ∃ fs, H dd = some (.xd fs)) ∧ PySem.W.kitOne K (.ref D) cv = some b ∧ Q (.bl b) H
theorem call_isX {X : Cx} {a : Addr} {cls : Value} {d : Option Addr} {oe : Obj} {pn : List (Addr × Obj)} (hz : Zc cls d oe) (hf : ∃ vs, oe.data = .fields vs) : CallR (X.suite a ((a, oe) :: pn)) (.builtin "isinstance") (rIsX X.K a cls d) := by
  intro pins s σ H xs us Q I r ⟨D, c, cv, b, hcls, C, hxs, only, hdd, yes, q⟩
  subst hcls hxs
  match d, hz, hdd, us, r with
  | none, hz, _, us, r => exact call_isE C hz hf pins s σ H _ us Q I r ⟨c, cv, b, rfl, only, yes, q⟩
  | some dd, ⟨kind, own⟩, hdd, [x, u], .cons hx (.cons hu .nil) =>
    cases hx
    cases only u hu
    obtain ⟨fs, tracked⟩ := hdd dd rfl
    obtain ⟨m, space, _⟩ := show ObjOk X.prog X.w H s.heap dd (.xd fs) from I.hok dd _ tracked
    obtain ⟨dict, lies, _⟩ := lookIn_ns space
    obtain ⟨parts, hparts⟩ := hf
    have held := (I.pin (a, oe) (by simp)).1
    have inst : PySem.W.InstAt s.heap a oe D (some dict) := by
      refine ⟨held, kind, ?_, ?_⟩
      · obtain ⟨_, _, dat, _⟩ := oe
        dsimp only at hparts ⊢
        rw [hparts]
        rfl
      · simpa [own] using lies
    have known : (PySem.W.clsIn X.K D).isSome = true := Option.isSome_iff_exists.mpr ((PySem.W.any_some C.hd).imp fun _ z => z.1)
    exact PySem.W.kia_one (PySem.W.kitx_exc known C.hg C.hk C.hs C.ha C.hn C.ht C.hm) I.kIn inst yes (fun z => nomatch z) fun tk => ⟨.bl b, H, I.kept (t' := tk) fun _ _ z => z, rfl, q⟩
/-! ### calls of defs that may raise -/
def CalX (P : Program) (w : World) (K : PySem.W.Frag) (mg : Str → Option Value) (base : Heap) (k : Nat) (x : Str) (ps : List Str) (dvs : List V) (sp : Sp) : Prop :=
  ∃ (f : Addr) (fd : FuncData) (ds : List Value), mg x = some (.ref f) ∧ PySem.W.keepIn K (.ref f) = true ∧ Vals dvs ds ∧ Binds K fd ps ds ∧ FnOk P w K mg base (L2.CX P w) k f fd ps sp
theorem pe_calx {X : Cx} {k j : Nat} {x : Str} {ps : List Str} {dvs : List V} {sp : Sp} {e : Expr} {es : List Expr} {t : TA} {p pos : Pos} (c : CalX X.prog X.w X.K X.mg X.base k x ps dvs sp) (hr : Room j X.A) (ha : PA X (e :: es) t) (hle : k ≤ j := by decide) (hg : Gl X x := by rfl)
    (hdb : (x == ("__debug__" : Str)) = false := by decide) (he : starEach (e :: es) X.env = (false, eval e X.env) :: starEach es X.env := by rfl) (hpl : (backTo pos (starEach es X.env)).any (·.1) = false := by rfl) :
    PE X (.Call (.Name x p) (e :: es) [] pos) (tCall sp dvs E0 t) := by
  obtain ⟨f, fd, ds, h1, h2, hd, h3, h4⟩ := c
  exact pe_call h4 (hr.mono hle) hg h1 h2 h3 hd passL ha hdb he hpl
def CalXK (P : Program) (w : World) (K : PySem.W.Frag) (mg : Str → Option Value) (base : Heap) (k : Nat) (x : Str) (ps : List Str) (n : Nat) (ks : List Str) (gV : List V → List V → List V) (sp : Sp) : Prop :=
  ∃ (f : Addr) (fd : FuncData) (g : List Value → List Value → List Value), mg x = some (.ref f) ∧ PySem.W.keepIn K (.ref f) = true ∧ KBn K fd ps n ks g gV ∧ FnOk P w K mg base (L2.CX P w) k f fd ps sp
theorem pe_calkx0 {X : Cx} {k j : Nat} {x : Str} {ps ks : List Str} {gV : List V → List V → List V} {sp : Sp} {kws : List Keyword} {tk : TA} {p pos : Pos} (c : CalXK X.prog X.w X.K X.mg X.base k x ps 0 ks gV sp) (hr : Room j X.A)
    (hkw : PK X kws tk) (hle : k ≤ j := by decide) (hg : Gl X x := by rfl) (hall : (backToKw pos (keywordEach kws X.env)).all (·.1.isSome) = true := by rfl) (hks : (backToKw pos (keywordEach kws X.env)).filterMap (·.1) = ks := by rfl)
    (hdb : (x == ("__debug__" : Str)) = false := by decide)
    (hpl : ((backTo pos (starEach [] X.env)).any (·.1) || (backToKw pos (keywordEach kws X.env)).any (·.1.isNone)) = false := by rfl) :
    PE X (.Call (.Name x p) [] kws pos) (tCallN 0 ks.length sp gV E0 tNil tk) := by
  obtain ⟨f, fd, g, h1, h2, h3, h4⟩ := c
  refine ⟨fun pins s σ H Q I h => ?_⟩
  refine wpAny_Call_Name_kw (ld_glob I hg h1 ?_ hdb)
  refine PySem.W.callWith_KW0 (h₀ := X.base) I.ok.mod.kin h2 hall (thn (hkw.run pos pins s σ H _ I h) fun ws s2 ⟨zs, H2, I2, rz, l1, l2, q2⟩ => ⟨I2.kIn, ?_⟩) hpl
  rw [hks]
  exact run_fnN (vs := []) (us := []) h4 (hr.mono hle) h3 passL I2 .nil rz l1 l2 q2
/-- a call whose error a try around it waits for -/
theorem pe_calxS {X : Cx} {k j : Nat} {x : Str} {ps : List Str} {sp : Sp} {e : Expr} {es : List Expr} {t : TA} {p pos : Pos} {W : WX} (c : CalX X.prog X.w X.K X.mg X.base k x ps [] sp) (hr : Room j X.A) (tk : Takes X W) (ha : PA X (e :: es) t) (hle : k ≤ j := by decide) (hg : Gl X x := by rfl)
    (hdb : (x == ("__debug__" : Str)) = false := by decide) (he : starEach (e :: es) X.env = (false, eval e X.env) :: starEach es X.env := by rfl) (hpl : (backTo pos (starEach es X.env)).any (·.1) = false := by rfl) :
    PE X (.Call (.Name x p) (e :: es) [] pos) (tCallS sp (WE W) t) := by
  obtain ⟨f, fd, ds, h1, h2, hd, h3, h4⟩ := c
  cases hd
  exact pe_callS h4 (hr.mono hle) hg h1 h2 h3 (fun σ => passAt tk σ) ha hdb he hpl
end E1

namespace PySem
namespace ErrX
open PySem.W PySem.Calls PyProof.Rows PySem.HandSPX
/-- a value that is written as a text, None too -/
def FmtN (v : Value) : Prop := FmtOk v ∨ v = .none
inductive FP2 : Expr → Prop
  | c {x : Str} {j : Nat} {pos : Pos} (h : x.length ≤ 1000) : FP2 (.Constant (.str x) j pos)
  | p {p q : Pos} : FP2 (.FormattedValue (.Name "part" p) (-1) none q)
  | a {p q : Pos} : FP2 (.FormattedValue (.Name "at" p) (-1) none q)
abbrev kP : Str := Str.ofString "part"
abbrev kA : Str := Str.ofString "at"
section
variable {prog : Program} {w : World} {A : Around} {E : Value → Shared → Prop} {R : Result → Shared → Prop} {s : Shared} {K : Frag} {mg mb : Str → Option Value} {C fI cc : Addr} {qual : Str} {st : Stmt}
theorem joins2 {env : Env} {m : Str → Option Value} {v u : Value} (hk : env.scope.kind = .function) (hl : env.kindOf kP = some .local) (hl2 : env.kindOf kA = some .local) (hv : m kP = some v) (hu : m kA = some u) (fv : FmtN v) (fu : FmtN u) :
    ∀ (es : List Expr) (acc : Str) (s : Shared) (Q : Str → Shared → Prop), (∀ e ∈ es, FP2 e) → acc.length + 1000 * es.length ≤ 100000 → s.heap.Ns env.locals m →
      (∀ out tk, out.length ≤ 100000 → Q out { s with toks := tk }) → Joins (model prog w) A E (evalEach es env) acc Q s
  | [], acc, s, Q, _, hz, _, hq => by
    have e0 : evalEach [] env = [] := by first | rfl | simp [evalEach]
    rw [e0]
    have := hq acc s.toks (by simpa using hz)
    exact this
  | e :: es, acc, s, Q, hp, hz, hn, hq => by
    have e0 : evalEach (e :: es) env = eval e env :: evalEach es env := by first | rfl | simp [evalEach]
    rw [e0]
    have hp' : ∀ e ∈ es, FP2 e := fun e h => hp e (List.mem_cons_of_mem _ h)
    rw [List.length_cons] at hz
    have step : ∀ (y : Str) (t : Tok) (tk : Nat), y.length ≤ 1000 → ∃ y' t', Value.str y t = .str y' t' ∧ (acc ++ y').length ≤ sizeLine ∧ Joins (model prog w) A E (evalEach es env) (acc ++ y') Q { s with toks := tk } := fun y t tk hy => by
      have hlen : (acc ++ y).length = acc.length + y.length := by first | exact Str.length_append _ _ | simp
      refine ⟨y, t, rfl, ?_, ?_⟩
      · rw [hlen, sizeLine_eq]
        omega
      · exact joins2 hk hl hl2 hv hu fv fu es (acc ++ y) { s with toks := tk } Q hp' (by rw [hlen]; omega) hn fun out tk' ho => hq out tk' ho
    have one : ∀ v : Value, FmtN v → wpAny (model prog w) A (formatField v Str.empty) (fun r s' => ∃ y' t', r = .str y' t' ∧ (acc ++ y').length ≤ sizeLine ∧ Joins (model prog w) A E (evalEach es env) (acc ++ y') Q s') E s := fun v fv => by
      rcases fv with (⟨y, t, rfl, hy⟩ | ⟨i, t, rfl, hi, hy⟩) | rfl
      · exact wpAny_formatField_str (step y t s.toks hy) (step y _ _ hy) (by rw [sizeLine_eq]; omega)
      · exact wpAny_formatField_int hi (step _ _ _ (by rw [ofString_length]; exact hy))
      · exact wpAny_formatField_none (step _ _ _ (by decide +kernel))
    show wpAny _ _ (eval e env) _ _ _
    cases hp e List.mem_cons_self with
    | c h => exact Calls.Constant_str (step _ _ _ h)
    | p => exact wpAny_FormattedValue_plain (wpAny_Name (wpAny_loadName_local hk hl hn hv (one v fv)) (by decide +kernel))
    | a => exact wpAny_FormattedValue_plain (wpAny_Name (wpAny_loadName_local hk hl2 hn hu (one u fu)) (by decide +kernel))
theorem two_keys {h : Heap} {dx : Addr} {h1 h2 : Int} {t1 t2 : Tok} {v u : Value} (e : h.get? dx = some (dictOf [⟨h1, .str kP t1, v⟩, ⟨h2, .str kA t2, u⟩] 2)) : h.Ns1 dx (fun y => if y = kP then some v else if y = kA then some u else none) := by
  have ne : kP ≠ kA := by decide +kernel
  refine ⟨_, _, _, e, rfl, fun d hd => ?_, ?_, fun y => ?_⟩
  · have hd2 : d = ⟨h1, .str kP t1, v⟩ ∨ d = ⟨h2, .str kA t2, u⟩ := by simpa using hd
    rcases hd2 with rfl | rfl
    · exact ⟨kP, t1, rfl⟩
    · exact ⟨kA, t2, rfl⟩
  · refine List.pairwise_cons.mpr ⟨fun x hx => ?_, List.pairwise_singleton _ _⟩
    obtain rfl := List.mem_singleton.mp hx
    intro n a b
    replace a : (kP == n) = true := a
    replace b : (kA == n) = true := b
    exact ne ((eq_of_beq a).trans (eq_of_beq b).symm)
  · by_cases z : y = kP
    · subst z
      simp [nsFind, findBy, Value.isStr]
    · by_cases z2 : y = kA
      · subst z2
        simp [nsFind, findBy, Value.isStr, ne, Ne.symm ne]
      · simp [nsFind, findBy, Value.isStr, z, z2, Ne.symm z, Ne.symm z2]
structure IniEnd2 (h h' : Heap) (x C dx : Addr) (v u : Value) : Prop where
  keep : ∀ b o, b ≠ x → h.get? b = some o → h'.get? b = some o
  obj : ∃ t1 : Addr, h'.get? x = some { cls := .ref C, dict := some dx, data := .fields #[.ref t1, .none, .none, .none, .bool false, .none] }
  dbig : h.objs.size ≤ dx
  dne : dx ≠ x
  ns : h'.Ns1 dx (fun y => if y = kP then some v else if y = kA then some u else none)
abbrev iniScope2 : Scope := { kind := .function, names := [(Str.ofString "self", .local), (kP, .local), (kA, .local), (Str.ofString "__class__", .free), (Str.ofString "super", .globalImplicit)], isGenerator := false, isCoroutine := false, more := [] }
abbrev iniBody2 (v1 v2 : Expr) (rest : List Expr) (p1 p2 p3 p4 p5 p6 q1 q2 q3 q4 r1 r2 r3 r4 : Pos) : List Stmt :=
  [.Expr (.Call (.Attribute (.Call (.Name "super" p1) [] [] p2) "__init__" p3) [.JoinedStr (v1 :: v2 :: rest) p4] [] p5) p6, .Assign [.Attribute (.Name "self" q1) kP q2] (.Name kP q3) q4, .Assign [.Attribute (.Name "self" r1) kA r2] (.Name kA r3) r4]
theorem l2_self : iniScope2.names.lookup (Str.ofString "self") = some .local := by decide +kernel
theorem l2_p : iniScope2.names.lookup kP = some .local := by decide +kernel
theorem l2_a : iniScope2.names.lookup kA = some .local := by decide +kernel
theorem l2_cls : iniScope2.names.lookup (Str.ofString "__class__") = some .free := by decide +kernel
theorem l2_sup : iniScope2.names.lookup (Str.ofString "super") = some .globalImplicit := by decide +kernel
theorem err_init2 {nm : Str} {s1 p1 p2 p3 p4 p5 p6 q1 q2 q3 q4 r1 r2 r3 r4 : Pos} {v1 v2 : Expr} {rest : List Expr} (EC : ErrC K mg nm C) {dV : Value} (IC : IniC prog K mg C fI cc qual kP st dV) (noA : findIn K (.ref C) kA = some none)
    (hbd : L2.defBody st = iniBody2 v1 v2 rest p1 p2 p3 p4 p5 p6 q1 q2 q3 q4 r1 r2 r3 r4)
    (hpar : ((L2.defArgs st).posonlyargs ++ (L2.defArgs st).args).head? = some { arg := "self", annotation := none, pos := s1 })
    (hps : ∀ e ∈ v1 :: v2 :: rest, FP2 e) (hlen : rest.length ≤ 20) (hpos : (p3.endLine == p5.line) = true) (hsc : L2.defScope st = iniScope2)
    {x t0 : Addr} {v u : Value} (MO : L2.Mod K mg s.heap) (hx : s.heap.get? x = some (excO C t0)) (hnx : K.lookup x = none) (hroom : A.depth < recursionLimit) (fv : FmtN v) (fu : FmtN u)
    (hbind : ∀ kV doc pm an cda ct, BindsTo s (ksFn "__init__" qual (L2.defArgs st) (L2.defBody st) (L2.defScope st) dV kV doc pm an (.ref cda) ct cc) ⟨[.ref x, v, u], []⟩ [(Str.ofString "self", .ref x), (kP, v), (kA, u)])
    (hq : ∀ h' tk dx, IniEnd2 s.heap h' x C dx v u → R (.ok (.ret .none)) { s with heap := h', toks := tk }) :
    codeAny (model prog w) A (.call (.ref fI) ⟨[.ref x, v, u], []⟩) R s := by
  obtain ⟨oc, od, kV, doc, pm, an, cda, ct, osl, ho, hcd, ccl, cdd, vs, ccs, file, tf, hcda, hvs, hfile⟩ := IC.fn
  have X := MO.kin
  have hb := hbind kV doc pm an cda ct
  rw [hbd, hsc] at ho hb
  obtain ⟨cl, cld, csl, hcell⟩ := IC.cell
  obtain ⟨mb, hmb, hmb2⟩ := MO.blt
  obtain ⟨nm', N', qn, bs, bm, hdct, sn, sub, ab, col, dd, k0, k1, k2, k3, k5, hC, hT⟩ := excInit_of X EC.ei
  obtain ⟨hp, g, d, t, os⟩ := s
  refine ks_codeAny_call_defAt (fd := ksFn "__init__" qual (L2.defArgs st) (iniBody2 v1 v2 rest p1 p2 p3 p4 p5 p6 q1 q2 q3 q4 r1 r2 r3 r4) (iniScope2) dV kV doc pm an (.ref cda) ct cc) (body := iniBody2 v1 v2 rest p1 p2 p3 p4 p5 p6 q1 q2 q3 q4 r1 r2 r3 r4) (binds := [(Str.ofString "self", .ref x), (kP, v), (kA, u)])
    hroom (X _ _ ho) rfl MO.nolimit (codeRec_of X hcd) rfl hb ?_ ?_ (fun h₁ hns k => ?_)
  · intro y hy z
    have hy' : y ∈ (iniScope2).names := hy
    simp only [List.mem_cons, List.not_mem_nil, or_false] at hy'
    rcases hy' with rfl | rfl | rfl | rfl | rfl <;> cases z
  · intro y hy
    simp only [List.mem_cons, List.not_mem_nil, or_false] at hy
    rcases hy with rfl | rfl | rfl
    · exact l2_self
    · exact l2_p
    · exact l2_a
  · have X₁ : K.In h₁ := X.keeps k
    have hx₁ := k _ _ hx
    have hC₁ := k _ _ hC
    have mS : (fun y => [(Str.ofString "self", Value.ref x), (kP, v), (kA, u)].reverse.lookup y) (Str.ofString "self") = some (.ref x) := by
      show List.lookup (Str.ofString "self") [(kA, u), (kP, v), (Str.ofString "self", Value.ref x)] = _
      rw [List.lookup_cons, show (Str.ofString "self" == kA) = false by decide +kernel, List.lookup_cons, show (Str.ofString "self" == kP) = false by decide +kernel, List.lookup_cons, beq_self_eq_true]
    have mF : (fun y => [(Str.ofString "self", Value.ref x), (kP, v), (kA, u)].reverse.lookup y) kP = some v := by
      show List.lookup kP [(kA, u), (kP, v), (Str.ofString "self", Value.ref x)] = _
      rw [List.lookup_cons, show (kP == kA) = false by decide +kernel, List.lookup_cons, beq_self_eq_true]
    have mA : (fun y => [(Str.ofString "self", Value.ref x), (kP, v), (kA, u)].reverse.lookup y) kA = some u := by
      show List.lookup kA [(kA, u), (kP, v), (Str.ofString "self", Value.ref x)] = _
      rw [List.lookup_cons, beq_self_eq_true]
    refine ks_wpAt_execs_cons (ks_wpAt_Expr_any (ks_wpAt_MethodCall (pl := (do return (← importBound (.Call (.Name "super" p1) [] [] p2) (ksEnv qual (iniScope2) hp.objs.size fI (.ref cda) cc)).getD true)) ?_ ?_))
    rotate_left
    · rw [arm_eval_Call]
      unfold methodCall
      have e2 : ∀ env : Env, methodCallPos (methodCallForm ([Expr.JoinedStr (v1 :: v2 :: rest) p4].length + ([] : List Keyword).length) (backTo p5 (starEach [Expr.JoinedStr (v1 :: v2 :: rest) p4] env)) (backToKw p5 (keywordEach [] env))) (.Call (.Name "super" p1) [] [] p2) env p3 p5 = pure p5 := fun env => by
        show (if (!true || p3.endLine == p5.line) = true then pure p5 else _) = _
        rw [hpos]
        rfl
      rw [e2]
      rfl
    refine ks_wpAt_super_base (f := fI) (cc := cda) (l2_sup) (l2_cls) (by decide +kernel) rfl (X₁ _ _ ho) rfl hpar rfl (X₁ _ _ hcda) rfl hvs hfile IC.top ?_
    refine ks_loadName_global rfl (l2_sup) (loadGlobal_builtin (MO.glob.keeps k) IC.msup (hmb.keeps k) ((hmb2 "super" (by decide)).trans (show bootBuiltins "super" = some (.type "super") by decide +kernel)) ⟨rfl, ?_⟩)
    refine wpAny_loadName_free rfl (l2_cls) rfl ⟨_, X₁ _ _ hcell, rfl⟩ ?_
    refine wpAny_loadName_local rfl l2_self hns mS ?_
    refine ks_wpAny_isType_cls hC₁ rfl ⟨rfl, ?_⟩
    refine ks_wpAny_call_super hC₁ rfl hx₁ rfl (fun c z => by cases z) (looks_mroIn X₁ IC.slf) (fun h₂ hso k₂ => ?_)
    have X₂ : K.In h₂ := X₁.keeps k₂
    have hx₂ := k₂ _ _ hx₁
    have I₂ : W.InstAt h₂ x (excO C t0) C none := ⟨hx₂, rfl, rfl, trivial⟩
    have hsup := IC.sup
    unfold ks_superIn at hsup
    cases hc : clsIn K C with
    | none =>
      rw [hc] at hsup
      cases hsup
    | some cd =>
    rw [hc] at hsup
    refine kxs_getMethod kxs_ArithmeticError hso (looks_opaque X₂ IC.th) (l₀ := cd.mro) (fun A Q E s k q => wpAny_bind ((looks_clsIn X₂ hc) A _ E s k (wpAny_pure q))) rfl X₂ hsup (I₂.type.andThen (looks_subIn X₂ IC.subA)) (ks_ne X₂ I₂ hc) (by decide +kernel) ?_
    have k₃ : ∀ b o, h₂.get? b = some o → (h₂.push (kxs_mw "ArithmeticError.__init__" x)).get? b = some o := fun b o e => Heap.get?_push_of_some _ e
    have hu : (h₂.push (kxs_mw "ArithmeticError.__init__" x)).get? h₂.objs.size = some (kxs_mw "ArithmeticError.__init__" x) := Heap.get?_push_at rfl rfl
    have kk : ∀ b o, hp.get? b = some o → (h₂.push (kxs_mw "ArithmeticError.__init__" x)).get? b = some o := fun b o e => k₃ _ _ (k₂ _ _ (k _ _ e))
    have hns₃ : (h₂.push (kxs_mw "ArithmeticError.__init__" x)).Ns hp.objs.size (fun y => [(Str.ofString "self", Value.ref x), (kP, v), (kA, u)].reverse.lookup y) := by
      obtain ⟨oL, es, ep, hL, r⟩ := hns
      exact ⟨oL, es, ep, k₃ _ _ (k₂ _ _ hL), r⟩
    have hx₃ := k₃ _ _ hx₂
    have hC₃ := kk _ _ hC
    have hsz : h₂.objs.size < (h₂.push (kxs_mw "ArithmeticError.__init__" x)).objs.size := Heap.lt_size hu
    generalize h₂.push (kxs_mw "ArithmeticError.__init__" x) = h₃ at *
    refine kxs_callWith (i := "ArithmeticError.__init__") (x := x) rfl (evalArgs_plain ?_)
    refine Calls.spliced_cons (wpAny_JoinedStr (pos := p4) (joins2 (env := callEnv (ksFn "__init__" qual (L2.defArgs st) (iniBody2 v1 v2 rest p1 p2 p3 p4 p5 p6 q1 q2 q3 q4 r1 r2 r3 r4) (iniScope2) dV kV doc pm an (.ref cda) ct cc) hp.objs.size fI) rfl l2_p l2_a mF mA fv fu _ Str.empty _ _ hps ?_ hns₃ fun out tk ho => ⟨by rw [sizeLine_eq]; omega, ?_⟩))
    · rw [List.length_cons, List.length_cons]
      show 0 + 1000 * (rest.length + 1 + 1) ≤ 100000
      omega
    refine Calls.spliced_nil ⟨hu, ?_⟩
    -- the library's own rules, over the heap of the call with the error itself left out
    have xL : x ≠ hp.objs.size := Nat.ne_of_lt (Heap.lt_size hx)
    have nK : ∀ a o, K.lookup a = some o → a ∉ [x] := fun a o e z => by
      rw [List.mem_singleton.mp z, hnx] at e
      cases e
    have X₀ : K.In (hideAll hp [x]) := fun a o e => hideAll_get [x] (X a o e) (nK a o e)
    have F₃ : Fr (hideAll hp [x]) hp.objs.size h₃ (fun y => [(Str.ofString "self", Value.ref x), (kP, v), (kA, u)].reverse.lookup y) :=
      ⟨hns₃, fun b o e => kk b o (of_hideAll [x] e), Nat.le_of_eq (hideAll_size [x] hp)⟩
    have L₂ : hp.objs.size < h₂.objs.size := by
      obtain ⟨oL, es, ep, hL, _⟩ := hns
      exact Heap.lt_size (k₂ _ _ hL)
    have ux : h₂.objs.size ≠ x := Nat.ne_of_gt (Nat.lt_trans (Heap.lt_size hx) L₂)
    have uo : (hideAll hp [x]).get? h₂.objs.size = none := by
      cases e : (hideAll hp [x]).get? h₂.objs.size with
      | none => rfl
      | some o => exact absurd (Nat.lt_trans (Heap.lt_size (of_hideAll [x] e)) L₂) (Nat.lt_irrefl _)
    have N₃ : News (hideAll hp [x]) hp.objs.size h₃ [(h₂.objs.size, kxs_mw "ArithmeticError.__init__" x), (x, excObj C t0 none .none)] := fun p hp' => by
      rcases List.mem_cons.mp hp' with rfl | hp'
      · exact ⟨hu, Nat.ne_of_gt L₂, uo⟩
      · obtain rfl := List.mem_singleton.mp hp'
        exact ⟨hx₃, xL, hideAll_none [x] (List.mem_singleton.mpr rfl)⟩
    refine kxs_call F₃ X₀ N₃ F.excBase_ArithmeticError EC.ei List.mem_cons_self (.tail ux (.head fun p z => nomatch z)) (by show 1 ≤ sizeLine; decide) fun t1 h₄ F₄ N₄ lt₄ => ?_
    have X₄ : K.In h₄ := X₀.keeps F₄.keep
    have hx₄ : h₄.get? x = some (excO C t1) := (N₄ (x, excObj C t1 none .none) (by simp)).1
    have tx : t1 ≠ x := Nat.ne_of_gt (lt₄ (x, excObj C t0 none .none) (by simp))
    refine ks_wpAt_execs_cons (ks_wpAt_Assign_Attr (wpAt_of_wpAny (wpAny_Name (wpAny_loadName_local rfl l2_p F₄.ns mF ?_) (by decide +kernel))))
    refine wpAny_Name (wpAny_loadName_local rfl l2_self F₄.ns mS ?_) (by decide +kernel)
    refine set_plain X₄ (ox := excO C t1) (od := none) ⟨hx₄, rfl, rfl, trivial⟩ EC.sa ?_
    have free : takerIn K C kP = some none := by
      rw [takerIn, IC.noF]
      rfl
    refine osa_exc0 (pre := [(t1, _), (h₂.objs.size, _)]) (post := []) F.store_ArithmeticError F₄ N₄ X₄ EC.eo free EC.hdC (fun p z => ?_) (fun p z => nomatch z) (putName_dict _ _ _ _ _ _) rfl (by show 1 ≤ 1000; decide) fun dx h₅ F₅ N₅ lt₅ => ?_
    · rcases List.mem_cons.mp z with rfl | z
      · exact tx
      · obtain rfl := List.mem_singleton.mp z
        exact ux
    have xd : x < dx := lt₅ (x, excObj C t1 none .none) (by simp)
    have ud : h₂.objs.size < dx := lt₅ (h₂.objs.size, kxs_mw "ArithmeticError.__init__" x) (by simp)
    have td : t1 < dx := lt₅ (t1, _) List.mem_cons_self
    have X₅ : K.In h₅ := X₀.keeps F₅.keep
    have hx₅ := (N₅ (x, excObj C t1 (some dx) .none) (by simp)).1
    have hd₅ := (N₅ _ List.mem_cons_self).1
    refine ks_wpAt_execs_cons (ks_wpAt_Assign_Attr (wpAt_of_wpAny (wpAny_Name (wpAny_loadName_local rfl l2_a F₅.ns mA ?_) (by decide +kernel))))
    refine wpAny_Name (wpAny_loadName_local rfl l2_self F₅.ns mS ?_) (by decide +kernel)
    refine set_plain X₅ (od := some _) ⟨hx₅, rfl, rfl, hd₅⟩ EC.sa ?_
    have free2 : takerIn K C kA = some none := by
      rw [takerIn, noA]
      rfl
    refine osa_excD (x := x) (t := t1) (dx := dx) (c2 := .none) (pre := []) (post := [(t1, _), (h₂.objs.size, _), (x, excObj C t1 (some dx) .none)]) F.store_ArithmeticError F₅ N₅ X₅ (by simp) EC.eo free2 EC.hdC (by rw [lookIn_dict]; rfl) (fun p z => nomatch z) (fun p z => ?_) (putName_dict _ _ _ _ _ _) rfl (by show 2 ≤ 1000; decide) fun h₆ F₆ N₆ => ?_
    · rcases List.mem_cons.mp z with rfl | z
      · exact Nat.ne_of_lt td
      · rcases List.mem_cons.mp z with rfl | z
        · exact Nat.ne_of_lt ud
        · obtain rfl := List.mem_singleton.mp z
          exact Nat.ne_of_lt xd
    refine wpAt_of_wpAny (wpAny_execs_nil ?_)
    exact hq h₆ _ dx ⟨fun b o hb e => F₆.keep b o (hideAll_get [x] e fun z => hb (List.mem_singleton.mp z)), ⟨t1, (N₆ (x, excObj C t1 (some dx) .none) (by simp)).1⟩, Nat.le_of_lt (Nat.lt_trans L₂ ud), Nat.ne_of_gt xd, two_keys (N₆ _ List.mem_cons_self).1⟩
end
end ErrX
end PySem

namespace PySem
namespace ErrX
open PySem.W PySem.Calls PyProof.Rows PySem.HandSPX
/-- a made error with two fields -/
structure Made2 (h h' : Heap) (e C d : Addr) (v u : Value) : Prop where
  keep : ∀ b o, h.get? b = some o → h'.get? b = some o
  new : h.objs.size ≤ e
  obj : ∃ oe vs, h'.get? e = some oe ∧ oe.cls = .ref C ∧ oe.dict = some d ∧ oe.data = .fields vs ∧ vs[1]? = some .none
  dbig : h.objs.size ≤ d
  dne : d ≠ e
  ns : h'.Ns1 d (fun y => if y = kP then some v else if y = kA then some u else none)
/-- its __init__ does as it should -/
structure IniOk2 (prog : Program) (w : World) (K : Frag) (mg : Str → Option Value) (C fI : Addr) : Prop where
  iC : findIn K (.ref C) "__init__" = some (some (.ref fI))
  tC : typeIn K (.ref fI) = some (.type "function")
  run : ∀ (A : Around) (R : Result → Shared → Prop) (s : Shared) (x t0 : Addr) (v u : Value), L2.Mod K mg s.heap → s.heap.get? x = some (excO C t0) → K.lookup x = none → A.depth < recursionLimit → FmtN v → FmtN u →
    (∀ h' tk dx, IniEnd2 s.heap h' x C dx v u → R (.ok (.ret .none)) { s with heap := h', toks := tk }) → codeAny (model prog w) A (.call (.ref fI) ⟨[.ref x, v, u], []⟩) R s
section
variable {prog : Program} {w : World} {A : Around} {E : Value → Shared → Prop} {R : Result → Shared → Prop} {s : Shared} {K : Frag} {mg : Str → Option Value} {C fI : Addr} {nm : Str}
theorem err_made2 (EC : ErrC K mg nm C) (IO : IniOk2 prog w K mg C fI) {v u : Value} (MO : L2.Mod K mg s.heap) (hroom : A.depth + 1 < recursionLimit) (fv : FmtN v) (fu : FmtN u)
    (hq : ∀ h' tk e d, Made2 s.heap h' e C d v u → R (.ok (.ret (.ref e))) { s with heap := h', toks := tk }) :
    codeAny (model prog w) A (.call (.ref C) ⟨[v, u], []⟩) R s := by
  have X := MO.kin
  obtain ⟨nm', N', qn, bs, bm, hdct, sn, sub, ab, col, dd, k0, k1, k2, k3, k5, hC, hT⟩ := excInit_of X EC.ei
  obtain ⟨hp, g, dr, tk, os⟩ := s
  have k : ∀ b o, hp.get? b = some o → ((hp.push (kdv_tup [v, u])).push (excO C hp.objs.size)).get? b = some o := fun b o e => Heap.get?_push_of_some _ (Heap.get?_push_of_some _ e)
  have hget : ((hp.push (kdv_tup [v, u])).push (excO C hp.objs.size)).get? (hp.objs.size + 1) = some (excO C hp.objs.size) := by heap_get
  have hnx : K.lookup (hp.objs.size + 1) = none := by
    cases e : K.lookup (hp.objs.size + 1) with
    | none => rfl
    | some o =>
      have z : hp.get? (hp.objs.size + 1) = some o := X _ _ e
      exact absurd (Nat.lt_of_succ_lt (Heap.lt_size z)) (Nat.lt_irrefl _)
  have MO' : L2.Mod K mg ((hp.push (kdv_tup [v, u])).push (excO C hp.objs.size)) := by
    obtain ⟨mb, h1, h2⟩ := MO.blt
    exact ⟨X.keeps k, MO.glob.keeps k, ⟨mb, h1.keeps k, h2⟩, MO.nolimit.keeps k⟩
  refine call_own F.excBase_ArithmeticError hT hC (looks_findIn X IO.iC) (fun self => bind_fn X self IO.tC) (by show 2 ≤ sizeLine; decide) ?_
  refine IO.run _ _ ⟨(hp.push (kdv_tup [v, u])).push (excO C hp.objs.size), g, dr, tk, os⟩ _ _ _ _ MO' hget hnx ?_ fv fu fun h' tk' dx ⟨k', ⟨t1, hx⟩, dn, dne, hns⟩ => ?_
  · show A.depth + 1 < recursionLimit
    exact hroom
  · have old : ∀ b o, hp.get? b = some o → h'.get? b = some o := fun b o e => k' b o (Nat.ne_of_lt (Nat.lt_succ_of_lt (Heap.lt_size e))) (k b o e)
    have z : hp.objs.size + 1 + 1 ≤ dx := by
      first
        | (simpa only [Heap.size_push] using dn)
        | exact dn
        | (have q := dn; rw [Heap.size_push, Heap.size_push] at q; exact q)
    exact ⟨rfl, hq h' tk' (hp.objs.size + 1) dx ⟨old, Nat.le_succ _, ⟨_, _, hx, rfl, rfl, rfl, rfl⟩, Nat.le_trans (Nat.le_trans (Nat.le_succ _) (Nat.le_succ _)) z, dne, hns⟩⟩
end
end ErrX
end PySem
namespace E1
open PySem PySem.Spec PyProof.Rows L2
open PySem.ErrX (ErrC IniOk2 FmtN FmtOk kP kA)
/-- a value that is written as a text of at most a thousand signs, None too -/
def VFmtN (v : V) : Prop := VFmt v ∨ v = .non
theorem VFmtN.ok {v : V} {u : Value} (h : VFmtN v) (r : RelV v u) : FmtN u := by
  rcases h with h | rfl
  · exact .inl (h.ok r)
  · exact .inr r
theorem relO_two {v u : V} {v' u' : Value} (r : RelV v v') (r2 : RelV u u') (f : Str) : RelO (List.lookup f [(kP, v), (kA, u)]) (if f = kP then some v' else if f = kA then some u' else none) := by
  by_cases hw : f = kP
  · subst hw
    rw [if_pos rfl, List.lookup_cons, beq_self_eq_true]
    exact r
  · rw [if_neg hw, List.lookup_cons, show (f == kP) = false from beq_eq_false_iff_ne.mpr hw]
    by_cases h2 : f = kA
    · subst h2
      rw [if_pos rfl]
      show RelO (List.lookup kA [(kA, u)]) _
      rw [List.lookup_cons, beq_self_eq_true]
      exact r2
    · rw [if_neg h2]
      show RelO (List.lookup f [(kA, u)]) _
      rw [List.lookup_cons, show (f == kA) = false from beq_eq_false_iff_ne.mpr h2]
      trivial
section
variable {X : Cx} {C fI : Addr} {x : Str}
/-- X(e, f), an error with two fields -/
def tMkErr2 (C : Addr) (ta : TA) : L2.St → Hp → XK → Prop := fun σ H Q => ta σ H fun vs H1 => ∃ v u, vs = [v, u] ∧ VFmtN v ∧ VFmtN u ∧ ∀ d, H1 d = none → Q (.ref C) (some d) (upd H1 d (.xd [(kP, v), (kA, u)]))
theorem pmk_err2 {a a2 : Expr} {ta : TA} {p pos : Pos} {k : Nat} (EC : ErrC X.K X.mg x C) (IO : IniOk2 X.prog X.w X.K X.mg C fI) (hr : Room k X.A) (ha : PA X [a, a2] ta) (hg : Gl X x := by rfl) (hdb : (x == ("__debug__" : Str)) = false := by decide)
    (he : starEach (a :: [a2]) X.env = (false, eval a X.env) :: starEach [a2] X.env := by rfl) (hpl : (backTo pos (starEach [a2] X.env)).any (·.1) = false := by rfl) :
    PMk X (.Call (.Name x p) [a, a2] [] pos) (tMkErr2 C ta) := by
  intro pins s σ H Q I h
  refine wpAny_Call_Name_kw (ld_glob I hg EC.gC ?_ hdb)
  refine PySem.W.callWith_K (h₀ := X.base) I.ok.mod.kin EC.kC (thn (ha.run pos pins s σ H _ I h) fun us s1 hh => ?_) he hpl
  obtain ⟨vs, H1, I1, r1, v, u, ev, fv, fu, q1⟩ := hh
  subst ev
  refine ⟨I1.kIn, ?_⟩
  cases r1 with
  | cons rv rn =>
    rename_i v' us'
    cases rn with
    | cons ru rm =>
    rename_i u' us2
    cases rm
    show wpAny _ _ (call (.ref C) [v', u']) _ _ _
    have MO : Mod X.K X.mg s1.heap := by
      obtain ⟨mb, h1, h2⟩ := I1.mod.blt
      exact ⟨I1.kIn, I1.mod.glob.keeps I1.bk, ⟨mb, h1.keeps I1.bk, h2⟩, I1.nolimit⟩
    obtain ⟨hp, g, dr, tk, os⟩ := s1
    refine wpAny_call (PySem.ErrX.err_made2 EC IO MO (by have := hr.dp; omega) (fv.ok rv) (fu.ok ru) fun h' tk' e d M => ?_)
    show MkP X pins σ Q (.ref e) ⟨h', g, dr, tk', os⟩
    obtain ⟨oe, fv', hoe, hc, hd, hdat, h1⟩ := M.obj
    have hns := M.ns
    obtain ⟨G', g1, g2⟩ := restrict h' fun b => decide (b ≠ e)
    have gk : ∀ b, b ≠ e → G'.get? b = h'.get? b := fun b hb => g1 b (decide_eq_true hb)
    have ge : G'.get? e = none := g2 e (by simp)
    have old : ∀ b o, hp.get? b = some o → G'.get? b = some o := fun b o q => (gk b (Nat.ne_of_lt (Nat.lt_of_lt_of_le (Heap.lt_size q) M.new))).trans (M.keep b o q)
    have ob : ObjOk X.prog X.w (upd H1 d (.xd [(kP, v), (kA, u)])) G' d (.xd [(kP, v), (kA, u)]) :=
      ⟨_, hns.at (fun o q => (gk d M.dne).trans q), fun f => relO_two rv ru f⟩
    have J : Inv X pins σ (upd H1 d (.xd [(kP, v), (kA, u)])) ⟨G', g, dr, tk', os⟩ := I1.laid (t' := tk') old M.dbig ob
    refine ⟨e, oe, fv', ⟨G', g, dr, tk', os⟩, _, .ref C, some d, rfl, J, fun b o q => ?_, ge, hoe, ⟨hc, hd⟩, hdat, h1, ?_, rfl, I1.bare, raises_own EC.exC EC.tyC, q1 d (I1.hok.fresh M.dbig)⟩
    · by_cases hb : b = e
      · have q' : G'.get? b = some o := q
        rw [hb, ge] at q'; cases q'
      · exact (gk b hb).symm.trans q
    · rw [upd_ne (Ne.symm M.dne)]
      exact I1.hok.fresh M.new
/-- raise X(e) -/
def tRaiseErr2 (C : Addr) (W : WX) (ta : TA) : TS := fun _ σ H => tMkErr2 C ta σ H fun cls d H' => W cls d σ H'
theorem ps_raiseErr2 {a a2 : Expr} {ta : TA} {W : WX} {p pos pos2 : Pos} {k : Nat} (hc : X.calm = true) (EC : ErrC X.K X.mg x C) (IO : IniOk2 X.prog X.w X.K X.mg C fI) (hr : Room k X.A) (tk : Takes X W) (ha : PA X [a, a2] ta) (hg : Gl X x := by rfl) (hdb : (x == ("__debug__" : Str)) = false := by decide)
    (he : starEach (a :: [a2]) X.env = (false, eval a X.env) :: starEach [a2] X.env := by rfl) (hpl : (backTo pos (starEach [a2] X.env)).any (·.1) = false := by rfl) :
    PS X (.Raise (some (.Call (.Name x p) [a, a2] [] pos)) none pos2) (tRaiseErr2 C W ta) := ps_raise hc tk (pmk_err2 EC IO hr ha hg hdb he hpl)
end
end E1

namespace E1
open PySem PySem.Spec PyProof.Rows L2
/-! ### a def of the text that is called by its name -/
def Cal (P : Program) (w : World) (K : PySem.W.Frag) (mg : Str → Option Value) (base : Heap) (k : Nat) (x : Str) (ps : List Str) (sp : Sp) : Prop :=
  ∃ (f : Addr) (fd : FuncData), mg x = some (.ref f) ∧ PySem.W.keepIn K (.ref f) = true ∧ Binds K fd ps [] ∧ FnOk P w K mg base CX0 k f fd ps sp
theorem pe_cal {X : Cx} {k j : Nat} {x : Str} {ps : List Str} {sp : Sp} {e : Expr} {es : List Expr} {t : TA} {p pos : Pos} (c : Cal X.prog X.w X.K X.mg X.base k x ps sp) (hr : Room j X.A) (ha : PA X (e :: es) t) (hle : k ≤ j := by decide) (hg : Gl X x := by rfl)
    (hdb : (x == ("__debug__" : Str)) = false := by decide) (he : starEach (e :: es) X.env = (false, eval e X.env) :: starEach es X.env := by rfl) (hpl : (backTo pos (starEach es X.env)).any (·.1) = false := by rfl) :
    PE X (.Call (.Name x p) (e :: es) [] pos) (tCall sp [] E0 t) := by
  obtain ⟨f, fd, h1, h2, h3, h4⟩ := c
  exact pe_call h4 (hr.mono hle) hg h1 h2 h3 .nil pass0 ha hdb he hpl
/-! ### heaps -/
def SameBut (a : Addr) (H H' : Hp) : Prop := ∀ b o, b ≠ a → H b = some o → H' b = some o
theorem SameBut.refl (a : Addr) (H : Hp) : SameBut a H H := fun _ _ _ h => h
theorem SameBut.trans {a : Addr} {H H1 H2 : Hp} (x : SameBut a H H1) (y : SameBut a H1 H2) : SameBut a H H2 := fun b o n h => y b o n (x b o n h)
theorem SameBut.of {a : Addr} {H H' : Hp} (s : Same H H') : SameBut a H H' := fun b o _ h => s b o h
theorem SameBut.upd {a : Addr} {H : Hp} {o : HO} : SameBut a H (upd H a o) := fun b _ n h => by
  rw [upd_ne n]
  exact h
theorem same_new {H : Hp} {p : Addr} {o : HO} (h : H p = none) : Same H (upd H p o) := fun b x e => by
  rw [upd_ne (ne_of_none e h)]
  exact e
theorem Same.tup {K : PySem.W.Frag} {H H' : Hp} {a : Addr} {xs : List V} (e : Same H H') (h : SqT K H a xs) : SqT K H' a xs := by
  rcases h with (h | ⟨o, h⟩) | h
  · exact .inl (.inl (e _ _ h))
  · exact .inl (.inr ⟨o, e _ _ h⟩)
  · exact .inr h
theorem a0 {α : Type} {x : α} {l : List α} : atI (x :: l) 0 = some x := atI_nat (j := 0) rfl
theorem a1 {α : Type} {x y : α} {l : List α} : atI (x :: y :: l) 1 = some y := atI_nat (j := 1) rfl
theorem a2 {α : Type} {x y z : α} {l : List α} : atI (x :: y :: z :: l) 2 = some z := atI_nat (j := 2) rfl
theorem toB {p : Prop} [Decidable p] (h : decide p = true) : p := of_decide_eq_true h
theorem toNB {p : Prop} [Decidable p] (h : ¬ decide p = true) : ¬ p := fun z => h (decide_eq_true z)
/-- a well: the digits left, a number that is mixed, how many were mixed (at most c) -/
def WellAt (H : Hp) (a : Addr) (c : Int) : Prop := ∃ x y z : Int, H a = some (.lst [.int x, .int y, .int z]) ∧ 0 ≤ y ∧ y < 2147483647 ∧ 0 ≤ z ∧ z ≤ c
theorem WellAt.mono {H : Hp} {a : Addr} {c d : Int} (h : WellAt H a c) (l : c ≤ d) : WellAt H a d := by
  obtain ⟨x, y, z, e, h1, h2, h3, h4⟩ := h
  exact ⟨x, y, z, e, h1, h2, h3, by omega⟩
theorem WellAt.same {H H' : Hp} {a : Addr} {c : Int} (h : WellAt H a c) (s : Same H H') : WellAt H' a c := by
  obtain ⟨x, y, z, e, h1, h2, h3, h4⟩ := h
  exact ⟨x, y, z, s _ _ e, h1, h2, h3, h4⟩
theorem WellAt.but {H H' : Hp} {a b : Addr} {c : Int} (h : WellAt H a c) (s : SameBut b H H') (n : a ≠ b) : WellAt H' a c := by
  obtain ⟨x, y, z, e, h1, h2, h3, h4⟩ := h
  exact ⟨x, y, z, s _ _ n e, h1, h2, h3, h4⟩
/-! ### promises of the law's helpers -/
def spCell (K : PySem.W.Frag) : Sp := fun vs H Q _ => ∃ (a : Addr) (ns : List Int) (k : Nat), vs = [.ref a, .int k] ∧ SqL K H a (ns.map V.int) ∧ Q (.int (ns.getD k 0)) H
def spWell : Sp := fun vs H Q _ => ∃ c : Int, vs = [.int c] ∧ ∀ p : Addr, H p = none → ∀ H', Same H H' → WellAt H' p 0 → Q (.ref p) H'
/-- a number from 0 to below m; the well has at most one more -/
def spDraw : Sp := fun vs H Q _ => ∃ (a : Addr) (c m : Int), vs = [.ref a, .int m] ∧ WellAt H a c ∧ c ≤ 1000000000 ∧ 0 < m ∧ m.natAbs < 2 ^ 9000 ∧
  ∀ (r : Int) (H' : Hp), 0 ≤ r → r < m → SameBut a H H' → True → WellAt H' a (c + 1) → Q (.int r) H'
theorem primes5 (k : Int) : ∃ p : Int, atI [V.int 2147483629, V.int 2147483587, V.int 2147483579, V.int 2147483563, V.int 2147483549] (k % 5) = some (.int p) ∧ 2147483549 ≤ p ∧ p ≤ 2147483629 := by
  have h0 : 0 ≤ k % 5 := Int.emod_nonneg _ (by decide)
  have h1 : k % 5 < 5 := Int.emod_lt_of_pos _ (by decide)
  generalize k % 5 = r at *
  rcases (by omega : r = 0 ∨ r = 1 ∨ r = 2 ∨ r = 3 ∨ r = 4) with rfl | rfl | rfl | rfl | rfl
  · exact ⟨_, rfl, by decide, by decide⟩
  · exact ⟨_, rfl, by decide, by decide⟩
  · exact ⟨_, rfl, by decide, by decide⟩
  · exact ⟨_, rfl, by decide, by decide⟩
  · exact ⟨_, rfl, by decide, by decide⟩
def topS (i : Nat) : Stmt := PySem.Challenge.pw_echobound_k40_nets_freed.main.body.getD i (.Pass ⟨0, 0, 0, 0⟩)
abbrev s__wall : Stmt := topS 0
abbrev s_is_whole : Stmt := topS 11
abbrev s_shared_divisor : Stmt := topS 12
abbrev s_lowest : Stmt := topS 13
abbrev s_times : Stmt := topS 14
abbrev s_divided : Stmt := topS 15
abbrev s_two_to : Stmt := topS 16
abbrev s_downward : Stmt := topS 18
abbrev s_upward : Stmt := topS 19
abbrev s_inward : Stmt := topS 20
abbrev s_outward : Stmt := topS 21
abbrev s_nearest_greater : Stmt := topS 22
abbrev s_nearest_even : Stmt := topS 23
abbrev s_nearest_far : Stmt := topS 24
abbrev s_is_manner : Stmt := topS 26
abbrev s_rounded : Stmt := topS 27
abbrev s_is_width : Stmt := topS 33
abbrev s_is_point : Stmt := topS 34
abbrev s_is_ends : Stmt := topS 35
abbrev s_is_place : Stmt := topS 45
abbrev s_is_factor : Stmt := topS 46
abbrev s_in_point : Stmt := topS 47
abbrev s_old_point : Stmt := topS 48
abbrev s_times_point : Stmt := topS 49
abbrev s_sum_point : Stmt := topS 50
abbrev s_move_point : Stmt := topS 51
abbrev s_keep_point : Stmt := topS 52
abbrev s_is_written_as_row : Stmt := topS 54
abbrev s_row_point : Stmt := topS 55
abbrev s_check_length : Stmt := topS 56
abbrev s_check_forms : Stmt := topS 57
abbrev s_is_hold : Stmt := topS 58
abbrev s_check_holds : Stmt := topS 59
abbrev s_checked_points : Stmt := topS 60
abbrev s_check_links : Stmt := topS 61
abbrev s_enter_form : Stmt := topS 63
abbrev s_is_row_number : Stmt := topS 64
abbrev s_is_keep_number : Stmt := topS 65
abbrev s_swept : Stmt := topS 66
abbrev s_without_width : Stmt := topS 68
abbrev s_freed : Stmt := topS 69
abbrev s_is_state : Stmt := topS 71
abbrev s_check_state : Stmt := topS 72
abbrev s_check_word : Stmt := topS 73
abbrev s_check_run : Stmt := topS 74
abbrev s_first_state : Stmt := topS 75
abbrev s_sum_number : Stmt := topS 76
abbrev s_number_of_row : Stmt := topS 77
abbrev s_state_behind : Stmt := topS 78
abbrev s_turn_of : Stmt := topS 79
abbrev s_went_over : Stmt := topS 80
abbrev s_turned : Stmt := topS 81
abbrev s_overs : Stmt := topS 82
abbrev s_run : Stmt := topS 83
abbrev s__law_cell_at : Stmt := topS 85
abbrev s__law_well : Stmt := topS 86
abbrev s__law_draw : Stmt := topS 87
abbrev s__law_form : Stmt := topS 88
abbrev s__law_word : Stmt := topS 89
abbrev s__law_coefficient : Stmt := topS 90
abbrev s__law_leaf : Stmt := topS 91
abbrev s__law_begun : Stmt := topS 92
abbrev s__law_point : Stmt := topS 93
abbrev s__law_one_more : Stmt := topS 94
abbrev s__law_filled : Stmt := topS 95
abbrev s__law_links : Stmt := topS 96
abbrev s__law_built_of : Stmt := topS 97
abbrev s__law_net : Stmt := topS 98
abbrev s__law_made : Stmt := topS 99
abbrev s__law_due : Stmt := topS 100
abbrev s__law_told : Stmt := topS 101
abbrev s__law_refused : Stmt := topS 102
abbrev s__law_gone : Stmt := topS 103
abbrev s__law_refusals : Stmt := topS 104
abbrev s__law_no_room : Stmt := topS 105
abbrev s__law_room_right : Stmt := topS 106
abbrev s_law : Stmt := topS 107
section
variable {P : Program} {w : World} {K : PySem.W.Frag} {mg : Str → Option Value} {base : Heap}
theorem sc__law_cell_at : FnScope ["_law_script", "_law_k"] ["_law_script", "_law_k"] (defScope s__law_cell_at) := ⟨rfl, rfl, rfl, by decide +kernel, rfl, by decide +kernel, by decide +kernel⟩
theorem sc__law_well : FnScope ["_law_cell"] ["_law_cell"] (defScope s__law_well) := ⟨rfl, rfl, rfl, by decide +kernel, rfl, by decide +kernel, by decide +kernel⟩
theorem sc__law_draw : FnScope ["_law_well_here", "_law_many", "_law_found", "_law_prime", "_law_mixed"] ["_law_well_here", "_law_many"] (defScope s__law_draw) := ⟨rfl, rfl, rfl, by decide +kernel, rfl, by decide +kernel, by decide +kernel⟩
theorem ok_cell {f : Addr} {fd : FuncData} {k : Nat} (F : Fun K "_law_cell_at" "_law_cell_at" s__law_cell_at f fd) (zl : mg "len" = none) : FnOk P w K mg base CX0 (k + 1) f fd ["_law_script", "_law_k"] (spCell K) := by
  refine F.ok sc__law_cell_at (fun vs H Q E h => ?_) (fun cdv A outer s H vs Q E hr h => ?_)
  · obtain ⟨a, ns, k, rfl, _⟩ := h
    rfl
  · obtain ⟨a, ns, k, rfl, hS, q⟩ := h
    refine ⟨_, (pss_cons (ps_if (pt_cmpR op_lt (pv 1) (pe_callB call_len_seq (by rfl) zl PySem.boot_len (pa_cons (pv 0) pa_nil)) (nomark _)) (pss_one (ps_ret (pe_ix ix_list (pv 0) (pv 1) (fun _ _ => rfl)))) pss_nil)
      (pss_one (ps_ret pe_int))), ?_⟩
    refine ⟨_, rfl, _, rfl, a, _, rfl, .inl hS, _, _, rfl, rfl, _, rfl, ite2 (fun c => ?_) (fun c => ?_)⟩
    · have hk : k < ns.length := by
        have := toB c
        rw [List.length_map] at this
        omega
      refine ⟨_, rfl, _, rfl, a, _, k, .int (ns.getD k 0), rfl, rfl, hS, atI_nat ?_, q⟩
      rw [List.getElem?_map, List.getElem?_eq_getElem hk, List.getD_eq_getElem?_getD, List.getElem?_eq_getElem hk]
      rfl
    · have hk : ¬ k < ns.length := fun z => by
        have := toNB c
        rw [List.length_map] at this
        omega
      have e : ns.getD k 0 = 0 := by
        rw [List.getD_eq_getElem?_getD, List.getElem?_eq_none (by omega)]
        rfl
      rw [e] at q
      exact q
theorem ok_well {f : Addr} {fd : FuncData} {k : Nat} (F : Fun K "_law_well" "_law_well" s__law_well f fd) (zi : mg "int" = none) : FnOk P w K mg base CX0 (k + 1) f fd ["_law_cell"] spWell := by
  refine F.ok sc__law_well (fun vs H Q E h => ?_) (fun cdv A outer s H vs Q E hr h => ?_)
  · obtain ⟨c, rfl, _⟩ := h
    rfl
  · obtain ⟨c, rfl, q⟩ := h
    refine ⟨_, (pss_one (ps_ret (pe_lst (pa_cons (pe_op op_mul (pv 0) (pe_callTy call_int1 (by rfl) zi (by decide +kernel) (pa_cons (pe_cmpR op_ge (pv 0) (pe_op op_pow pe_int pe_int) (nomark _)) pa_nil))) (pa_cons (pe_op op_mod (pv 0) pe_int) (pa_cons pe_int pa_nil)))))), ?_⟩
    refine ⟨_, rfl, _, rfl, _, _, rfl, rfl, ⟨by decide, by decide, by decide⟩, _, _, rfl, rfl, .inr ⟨_, rfl, _, _, rfl, rfl, .inr ?_, ?_⟩⟩
    · split <;> decide
    · refine ⟨_, rfl, _, _, rfl, rfl, (by show (0 : Int) < 2147483647; decide), (by show 3 ≤ sizeLine; decide), fun p hp => ?_⟩
      exact q p hp _ (same_new hp) ⟨_, _, _, upd_same, Int.emod_nonneg _ (by decide), Int.emod_lt_of_pos _ (by decide), Int.le_refl _, Int.le_refl _⟩
theorem ok_draw {f : Addr} {fd : FuncData} {k : Nat} (F : Fun K "_law_draw" "_law_draw" s__law_draw f fd) : FnOk P w K mg base CX0 (k + 1) f fd ["_law_well_here", "_law_many"] spDraw := by
  refine F.ok sc__law_draw (fun vs H Q E h => ?_) (fun cdv A outer s H vs Q E hr h => ?_)
  · obtain ⟨a, c, m, rfl, _⟩ := h
    rfl
  · obtain ⟨a, c, m, rfl, ⟨x, y, z, hw, y0, y1, z0, z1⟩, hc, m0, m1, q⟩ := h
    have fr : ∀ o b, H b = none → (upd H a o) b = none := fun o b hb => by
      rw [upd_ne (fun e => by rw [e, hw] at hb; cases hb)]
      exact hb
    refine ⟨_, (pss_cons (ps_if (pt_cmpR op_gt (pe_ix ix_list (pv 0) pe_int (fun _ _ => rfl)) pe_int (nomark _)) (pss_cons (ps_set (i := 2) sc__law_draw.nd rfl (.inl rfl) (pe_op op_mod (pe_ix ix_list (pv 0) pe_int (fun _ _ => rfl)) (pv 1)))
      (pss_cons (ps_asg (pe_op op_fdivW (pe_ix ix_list (pv 0) pe_int (fun _ _ => rfl)) (pv 1)) (pg_sub (pv 0) pe_int set_list))
      (pss_one (ps_ret (pv 2))))) pss_nil)
      (pss_cons (ps_asg (pe_op op_add (pe_ix ix_list (pv 0) pe_int (fun _ _ => rfl)) pe_int) (pg_sub (pv 0) pe_int set_list))
      (pss_cons (ps_set (i := 3) sc__law_draw.nd rfl (.inl rfl) (pe_ix ix_list (pe_lst (pa_cons pe_int (pa_cons pe_int (pa_cons pe_int (pa_cons pe_int (pa_cons pe_int pa_nil)))))) (pe_op op_mod (pe_ix ix_list (pv 0) pe_int (fun _ _ => rfl)) pe_int) (fun _ _ => rfl)))
      (pss_cons (ps_set (i := 4) sc__law_draw.nd rfl (.inl rfl) (pe_op op_mod (pe_op op_pow (pe_op op_add (pe_op op_add (pe_ix ix_list (pv 0) pe_int (fun _ _ => rfl)) (pe_op op_mul pe_int (pe_ix ix_list (pv 0) pe_int (fun _ _ => rfl)))) pe_int) pe_int) (pv 3)))
      (pss_cons (ps_set (i := 4) sc__law_draw.nd rfl (.inl rfl) (pe_op op_mod (pe_op op_mul (pe_op op_add (pv 4) (pe_ix ix_list (pv 0) pe_int (fun _ _ => rfl))) (pe_op op_add (pe_op op_fdiv (pv 4) pe_int) pe_int)) (pv 3)))
      (pss_one (ps_ret (pe_op op_mod (pe_op op_fdiv (pv 4) pe_int) (pv 1))))))))), ?_⟩
    refine ⟨_, rfl, a, _, 0, .int x, rfl, rfl, SqL.of hw, a0, x, 0, rfl, rfl, _, rfl, ite2 (fun c => ?_) (fun c => ?_)⟩
    · refine ⟨_, rfl, a, _, 0, .int x, rfl, rfl, SqL.of hw, a0, _, rfl, x, m, rfl, rfl, m0, ?_⟩
      refine ⟨_, rfl, a, _, 0, .int x, rfl, rfl, SqL.of hw, a0, _, rfl, x, m, rfl, rfl, wide_div m0 m1 (by decide) (Nat.le_refl _), _, rfl, a, _, 0, 0, rfl, rfl, hw, rfl, ?_⟩
      refine ⟨_, rfl, q _ _ (Int.emod_nonneg _ (by omega)) (Int.emod_lt_of_pos _ m0) SameBut.upd trivial ⟨_, _, _, upd_same, y0, y1, z0, by omega⟩⟩
    · refine ⟨_, rfl, a, _, 2, .int z, rfl, rfl, SqL.of hw, a2, z, 1, rfl, rfl, _, rfl, a, _, 2, 2, rfl, rfl, hw, rfl, ?_⟩
      have hw2 : (upd H a (.lst [V.int x, V.int y, V.int (z + 1)])) a = some (.lst [V.int x, V.int y, V.int (z + 1)]) := upd_same
      have hz : 0 ≤ z + 1 := by omega
      refine ⟨(by show 5 ≤ sizeLine; decide), fun l hl => ?_⟩
      replace hl : (upd H a (.lst [V.int x, V.int y, V.int (z + 1)])) l = none := hl
      have sl : Same (upd H a (.lst [V.int x, V.int y, V.int (z + 1)])) (upd (upd H a (.lst [V.int x, V.int y, V.int (z + 1)])) l (.lst [V.int 2147483629, V.int 2147483587, V.int 2147483579, V.int 2147483563, V.int 2147483549])) := same_new hl
      have h_l : (upd (upd H a (.lst [V.int x, V.int y, V.int (z + 1)])) l (.lst [V.int 2147483629, V.int 2147483587, V.int 2147483579, V.int 2147483563, V.int 2147483549])) l = some (.lst [V.int 2147483629, V.int 2147483587, V.int 2147483579, V.int 2147483563, V.int 2147483549]) := upd_same
      have hw3 : (upd (upd H a (.lst [V.int x, V.int y, V.int (z + 1)])) l (.lst [V.int 2147483629, V.int 2147483587, V.int 2147483579, V.int 2147483563, V.int 2147483549])) a = some (.lst [V.int x, V.int y, V.int (z + 1)]) := sl _ _ hw2
      obtain ⟨pr, ip, p0, p1⟩ := primes5 (z + 1)
      refine ⟨_, rfl, a, _, 2, .int (z + 1), rfl, rfl, SqL.of hw3, a2, _, _, rfl, rfl, (by show (0 : Int) < 5; decide), l, _, _, _, rfl, rfl, SqL.of h_l, ip, ?_⟩
      have n5 : 0 ≤ y + 6701 * (z + 1) + 3 ∧ y + 6701 * (z + 1) + 3 < 18446744073709551616 := by omega
      refine ⟨_, rfl, a, _, 1, .int y, rfl, rfl, SqL.of hw3, a1, _, rfl, a, _, 2, .int (z + 1), rfl, rfl, SqL.of hw3, a2, _, _, rfl, rfl, .inl ⟨by decide, by decide⟩, _, _, rfl, rfl, _, _, rfl, rfl, _, _, rfl, rfl, ⟨by decide, by decide, ?_⟩, _, rfl, _, _, rfl, rfl, (by omega), ?_⟩
      · show (y + 6701 * (z + 1) + 3).natAbs < 18446744073709551616
        omega
      · generalize hn : (y + 6701 * (z + 1) + 3) ^ (5 : Int).toNat % pr = n
        have n0 : 0 ≤ n := by rw [← hn]; exact Int.emod_nonneg _ (by omega)
        have n1 : n < pr := by rw [← hn]; exact Int.emod_lt_of_pos _ (by omega)
        refine ⟨_, rfl, _, rfl, a, _, 2, .int (z + 1), rfl, rfl, SqL.of hw3, a2, _, _, rfl, rfl, _, rfl, _, _, rfl, rfl, ⟨by decide, by decide⟩, _, _, rfl, rfl, _, _, rfl, rfl, .inl ⟨by omega, by omega⟩, _, rfl, _, _, rfl, rfl, (by omega), ?_⟩
        generalize hm : (n + (z + 1)) * (n / 1013 + 40693) % pr = u
        have u0 : 0 ≤ u := by rw [← hm]; exact Int.emod_nonneg _ (by omega)
        have u1 : u < pr := by rw [← hm]; exact Int.emod_lt_of_pos _ (by omega)
        refine ⟨_, rfl, _, _, rfl, rfl, ⟨by decide, by decide⟩, _, rfl, _, _, rfl, rfl, m0, ?_⟩
        refine q _ _ (Int.emod_nonneg _ (by omega)) (Int.emod_lt_of_pos _ m0) (SameBut.upd.trans (.of sl)) trivial ⟨_, _, _, hw3, y0, y1, by omega, by omega⟩
end
end E1

namespace E1
open PySem PySem.Spec PyProof.Rows L2
abbrev s_Form___init__ : Stmt := inClass (topS 36) 0
abbrev s_Form_least : Stmt := inClass (topS 36) 1
abbrev s_Form_greatest : Stmt := inClass (topS 36) 2
abbrev s_Form_has : Stmt := inClass (topS 36) 3
abbrev s_Form_step : Stmt := inClass (topS 36) 4
abbrev s_Form_slack : Stmt := inClass (topS 36) 5
abbrev s_Form_value : Stmt := inClass (topS 36) 6
abbrev s_Form_word_for : Stmt := inClass (topS 36) 7
abbrev s_Form_ended : Stmt := inClass (topS 36) 8
abbrev s_Form_kept : Stmt := inClass (topS 36) 9
abbrev s_Form_kept_at : Stmt := inClass (topS 36) 10
abbrev s_Form_bits : Stmt := inClass (topS 36) 11
abbrev s_Form_is_bits : Stmt := inClass (topS 36) 12
abbrev s_Form_word_of : Stmt := inClass (topS 36) 13
abbrev s_Form_added : Stmt := inClass (topS 36) 14
abbrev s_Form___eq__ : Stmt := inClass (topS 36) 15
abbrev s_Form___str__ : Stmt := inClass (topS 36) 16
abbrev s_Form___repr__ : Stmt := inClass (topS 36) 17
abbrev s_Net___init__ : Stmt := inClass (topS 62) 0
abbrev s_Net___eq__ : Stmt := inClass (topS 62) 10
abbrev s_Net___str__ : Stmt := inClass (topS 62) 11
abbrev s_Net___repr__ : Stmt := inClass (topS 62) 12
abbrev s_Net_forms : Stmt := inClass (topS 62) 1
abbrev s_Net_enters : Stmt := inClass (topS 62) 2
abbrev s_Net_rows : Stmt := inClass (topS 62) 3
abbrev s_Net_holds : Stmt := inClass (topS 62) 4
abbrev s_Net_out : Stmt := inClass (topS 62) 5
abbrev s_Net_points : Stmt := inClass (topS 62) 6
abbrev s_Net_keeps : Stmt := inClass (topS 62) 7
abbrev s_Net_start : Stmt := inClass (topS 62) 8
abbrev s_Net___len__ : Stmt := inClass (topS 62) 9
abbrev s_BadNet___init__ : Stmt := inClass (topS 8) 0

end E1

namespace E1
open PySem PySem.Spec PyProof.Rows L2


/-! ### error classes over the small head -/
abbrev IniV : Type := Option (Str × Str × Arguments × FuncBody × Scope × Addr × List Str × Addr)
def iniA (K : PySem.W.Frag) (x : Str) : Addr := He.ma K (He.ga K x) "__init__"
def iniF (K : PySem.W.Frag) (x : Str) : Option FuncData := match K.lookup (iniA K x) with
  | some ⟨_, _, .func fd, _⟩ => some fd
  | _ => none
def iniW (K : PySem.W.Frag) (x : Str) : IniV := (iniF K x).map fun fd => (fd.name, fd.qualname, fd.params, fd.body, fd.scope, fd.globals, fd.closure.map (·.1), fd.builtins)
structure ErrD where
  x : Str
  qual : Str
  params : Arguments
  body : List Stmt
  scope : Scope
  one : Bool
def ErrD.val (d : ErrD) : IniV := some ("__init__", d.qual, d.params, .stmts d.body, d.scope, mainGlobals, ["__class__"], builtinsNs)
/-- one default, or none -/
def iniD (K : PySem.W.Frag) (one : Bool) (v : Value) : Bool := match one, v with
  | false, v => decide (v = .none)
  | true, .ref T => (match K.lookup T with
    | some ⟨_, _, .seq its _, _⟩ => decide (its.size = 1)
    | _ => false)
  | true, _ => false
def iniS (v : Option Value) : Bool := match v with
  | some (.str f _) => decide (f = ("/claim/cut.py" : Str))
  | _ => false
def iniC (K : PySem.W.Frag) (qual : Str) (v : Value) : Bool := match v with
  | .ref c => PySem.W.codeIn K (.ref c) qual && (match K.lookup c with
    | some ⟨_, _, .fields vs, _⟩ => iniS (vs[2]?)
    | _ => false)
  | _ => false
def iniL (K : PySem.W.Frag) (x : Str) (l : List (Str × Addr)) : Bool := match l with
  | [(_, c)] => (match K.lookup c with
    | some ⟨_, _, .cell (some v), _⟩ => decide (v = .ref (He.ga K x))
    | _ => false)
  | _ => false
def ErrD.ok (K : PySem.W.Frag) (d : ErrD) : Bool := match iniF K d.x with
  | some fd => iniD K d.one fd.defaults && (iniC K d.qual fd.code && iniL K d.x fd.closure)
  | none => false
structure IniHas (prog : Program) (K : PySem.W.Frag) (d : ErrD) (cc : Addr) (dV : Value) : Prop where
  fn : ∃ (oc : Value) (od : Option Addr) (kV doc pm : Value) (an : Option Addr) (cda : Addr) (ct : Value) (osl : Array (Option Value)),
    K.lookup (iniA K d.x) = some ⟨oc, od, .func (PySem.W.ksFn "__init__" d.qual d.params d.body d.scope dV kV doc pm an (.ref cda) ct cc), osl⟩ ∧ PySem.W.codeIn K (.ref cda) d.qual = true ∧
    ∃ (ccl : Value) (cdd : Option Addr) (vs : Array Value) (ccs : Array (Option Value)) (file : Str) (tf : Tok), K.lookup cda = some ⟨ccl, cdd, .fields vs, ccs⟩ ∧ vs[2]? = some (.str file tf) ∧ ((prog.main.file : Str) == file) = true
  cell : ∃ (cl : Value) (cld : Option Addr) (csl : Array (Option Value)), K.lookup cc = some ⟨cl, cld, .cell (some (.ref (He.ga K d.x))), csl⟩
  dfl : iniD K d.one dV = true
theorem iniC_ok {K : PySem.W.Frag} {qual : Str} {v : Value} (h : iniC K qual v = true) : ∃ c, v = .ref c ∧ PySem.W.codeIn K (.ref c) qual = true ∧ ∃ (ccl : Value) (cdd : Option Addr) (vs : Array Value) (ccs : Array (Option Value)) (tf : Tok), K.lookup c = some ⟨ccl, cdd, .fields vs, ccs⟩ ∧ vs[2]? = some (.str "/claim/cut.py" tf) := by
  cases v with
  | ref c =>
    obtain ⟨h1, h2⟩ := He.ba (show (_ && _) = true from h)
    refine ⟨c, rfl, h1, ?_⟩
    cases e : K.lookup c with
    | none =>
      rw [e] at h2
      cases h2
    | some o =>
      rw [e] at h2
      obtain ⟨oc, od, dt, sl⟩ := o
      cases dt with
      | fields vs =>
        replace h2 : iniS (vs[2]?) = true := h2
        cases e2 : vs[2]? with
        | none =>
          rw [e2] at h2
          cases h2
        | some u =>
          rw [e2] at h2
          cases u with
          | str f tf =>
            have e3 : f = ("/claim/cut.py" : Str) := of_decide_eq_true h2
            subst e3
            exact ⟨_, _, _, _, _, rfl, e2⟩
          | _ => cases h2
      | _ => cases h2
  | _ => cases h
theorem iniL_ok {K : PySem.W.Frag} {x : Str} {l : List (Str × Addr)} (h : iniL K x l = true) (hl : l.map (·.1) = [("__class__" : Str)]) : ∃ c, l = [(("__class__" : Str), c)] ∧ ∃ (cl : Value) (cld : Option Addr) (csl : Array (Option Value)), K.lookup c = some ⟨cl, cld, .cell (some (.ref (He.ga K x))), csl⟩ := by
  match l, hl, h with
  | [(n, c)], hl, h =>
    cases hl
    refine ⟨c, rfl, ?_⟩
    replace h : (match K.lookup c with
      | some ⟨_, _, .cell (some v), _⟩ => decide (v = .ref (He.ga K x))
      | _ => false) = true := h
    cases e : K.lookup c with
    | none =>
      rw [e] at h
      cases h
    | some o =>
      rw [e] at h
      obtain ⟨oc, od, dt, sl⟩ := o
      cases dt with
      | cell v =>
        cases v with
        | none => cases h
        | some v =>
          have e3 : v = .ref (He.ga K x) := of_decide_eq_true h
          subst e3
          exact ⟨_, _, _, rfl⟩
      | _ => cases h
theorem errD_ok {prog : Program} {K : PySem.W.Frag} {d : ErrD} (hf : (prog.main.file : Str) = "/claim/cut.py") (e : iniW K d.x = d.val) (c : d.ok K = true) : ∃ cc dV, IniHas prog K d cc dV := by
  unfold iniW at e
  unfold ErrD.ok at c
  cases q : iniF K d.x with
  | none =>
    rw [q] at c
    cases c
  | some fd =>
    rw [q] at c e
    obtain ⟨c1, c2⟩ := He.ba c
    obtain ⟨c3, c4⟩ := He.ba c2
    have lk : ∃ oc od sl, K.lookup (iniA K d.x) = some ⟨oc, od, .func fd, sl⟩ := by
      unfold iniF at q
      cases e1 : K.lookup (iniA K d.x) with
      | none =>
        rw [e1] at q
        cases q
      | some o =>
        rw [e1] at q
        obtain ⟨oc, od, dt, sl⟩ := o
        cases dt with
        | func fd2 =>
          cases q
          exact ⟨_, _, _, rfl⟩
        | _ => cases q
    obtain ⟨n1, n2, n3, n4, n5, n6, n7, n8, n9, n10, n11, n12, n13, n14, n15⟩ := fd
    have e2 : (some (n1, n2, n3, n4, n5, n6, n7.map (·.1), n15) : IniV) = (some (("__init__" : Str), d.qual, d.params, FuncBody.stmts d.body, d.scope, mainGlobals, [("__class__" : Str)], builtinsNs) : IniV) := e
    simp only [Option.some.injEq, Prod.mk.injEq] at e2
    obtain ⟨h1, h2, h3, h4, h5, h6, h7, h8⟩ := e2
    subst h1 h2 h3 h4 h5 h6 h8
    obtain ⟨cda, ec, k1, ccl, cdd, vs, ccs, tf, k2, k3⟩ := iniC_ok c3
    obtain ⟨cc, el, kl⟩ := iniL_ok c4 h7
    replace ec : n13 = .ref cda := ec
    replace el : n7 = [(("__class__" : Str), cc)] := el
    subst ec el
    obtain ⟨oc, od, sl, lk⟩ := lk
    exact ⟨cc, n8, ⟨oc, od, n9, n10, n11, n12, cda, n14, sl, lk, k1, ccl, cdd, vs, ccs, _, tf, k2, k3, by rw [hf]; exact beq_self_eq_true _⟩, kl, c1⟩
theorem iniD_one {K : PySem.W.Frag} {v : Value} (h : iniD K true v = true) : ∃ T, v = .ref T ∧ ∃ (to : Value) (td : Option Addr) (its : Array Value) (tn : Nat) (ts : Array (Option Value)), K.lookup T = some ⟨to, td, .seq its tn, ts⟩ ∧ its.size = 1 := by
  cases v with
  | ref T =>
    refine ⟨T, rfl, ?_⟩
    replace h : (match K.lookup T with
      | some ⟨_, _, .seq its _, _⟩ => decide (its.size = 1)
      | _ => false) = true := h
    cases e : K.lookup T with
    | none =>
      rw [e] at h
      cases h
    | some o =>
      rw [e] at h
      obtain ⟨oc, od, dt, sl⟩ := o
      cases dt with
      | seq its n => exact ⟨_, _, _, _, _, rfl, of_decide_eq_true h⟩
      | _ => cases h
  | _ => cases h
theorem badnet_ini {P : Program} {w : World} {K : PySem.W.Frag} {mg : Str → Option Value} {C fI cc : Addr} {dV : Value} (nA : PySem.W.findIn K (.ref C) "at" = some none) (hd : iniD K true dV = true) (EC : PySem.ErrX.ErrC K mg "BadNet" C) (IC : PySem.ErrX.IniC P K mg C fI cc "BadNet.__init__" "part" s_BadNet___init__ dV) : PySem.ErrX.IniOk2 P w K mg C fI := by
  obtain ⟨T, rfl, to, td, its, tn, ts, lT, h1⟩ := iniD_one hd
  refine ⟨IC.iC, IC.tC, fun A R s x t0 v u MO hx hnx hroom fv fu hq => ?_⟩
  refine PySem.ErrX.err_init2 EC IC nA rfl rfl ?_ ?_ rfl rfl MO hx hnx hroom fv fu ?_ hq
  · intro e he
    simp only [List.mem_cons, List.not_mem_nil, or_false] at he
    rcases he with rfl | rfl | rfl | rfl
    · exact .c (by decide)
    · exact .p
    · exact .c (by decide)
    · exact .a
  · decide
  · intro kV doc pm an cda ct
    obtain ⟨l⟩ := its
    match l, h1 with
    | [i0], _ =>
      have hk : ∃ k, bindArgs (PySem.W.ksFn "__init__" "BadNet.__init__" (defArgs s_BadNet___init__) (defBody s_BadNet___init__) (defScope s_BadNet___init__) (.ref T) kV doc pm an (.ref cda) ct cc) ⟨[.ref x, v, u], []⟩ = seqItems? (.ref T) >>= k ∧ k (some [i0].toArray) = pure [(Str.ofString "self", .ref x), ("part", v), ("at", u)] := ⟨_, rfl, rfl⟩
      obtain ⟨k, e1, e2⟩ := hk
      refine BindsTo.of_looks fun M => ?_
      rw [e1]
      exact looks_items MO.kin lT rfl (.of_pure e2)
end E1

namespace E1
open PySem PySem.Spec PyProof.Rows L2

theorem Vals.rev : ∀ {xs : List V} {us : List Value}, Vals xs us → Vals xs.reverse us.reverse
  | _, _, .nil => .nil
  | _, _, .cons r t => by
    rw [List.reverse_cons, List.reverse_cons]
    exact Vals.append (Vals.rev t) (.cons r .nil)
section
variable {P : Program} {w : World} {K : PySem.W.Frag} {mg : Str → Option Value} {base : Heap} {x : Str} {st : Stmt} {f : Addr} {fd : FuncData} {ps ks : List Str} {k n : Nat} {sp : Sp}
/-- a def without defaults: its arguments by keywords alone or behind others -/
theorem Fun.kbn {qual : Str} (F : Fun K x qual st f fd) {g : List Value → List Value → List Value} {gV : List V → List V → List V} (hrel : ∀ {vs : List V} {us : List Value} {zs : List V} {ws : List Value}, Vals vs us → Vals zs ws → Vals (gV vs zs) (g us ws))
    (h : ∀ (kV doc pm : Value) (an : Option Addr) (cdv ct : Value) (us ws : List Value), us.length = n → ws.length = ks.length → bindArgs (PySem.W.fnOf x qual (defArgs st) (defBody st) (defScope st) .none kV doc pm an cdv ct) ⟨us, ks.zip ws⟩ = pure (ps.zip (g us ws))) : KBn K fd ps n ks g gV := by
  rcases F.ex with ⟨_, _, v1, v2, v3, v4, v5, v6, _, same, _, _⟩
  subst same
  exact ⟨fun s us ws _ l1 l2 => .of_eq (h v1 v2 v3 v4 v5 v6 us ws l1 l2), hrel⟩
/-- a def with defaults, all arguments given -/
theorem FunD.kbn {qual : Str} {params : Arguments} {body : List Stmt} {scope : Scope} {dvs : List V} {kws : List (Str × V)} (F : FunD K x qual params body scope dvs kws f fd) (hd : dvs ≠ []) {g : List Value → List Value → List Value} {gV : List V → List V → List V} (hrel : ∀ {vs : List V} {us : List Value} {zs : List V} {ws : List Value}, Vals vs us → Vals zs ws → Vals (gV vs zs) (g us ws))
    (h : ∀ (T : Addr) (kV doc pm : Value) (an : Option Addr) (cdv ct : Value) (us ws its : List Value), us.length = n → ws.length = ks.length → its.length = dvs.length → ∃ k, bindArgs (PySem.W.fnOf x qual params body scope (.ref T) kV doc pm an cdv ct) ⟨us, ks.zip ws⟩ = seqItems? (.ref T) >>= k ∧ k (some its.toArray) = pure (ps.zip (g us ws))) : KBn K fd ps n ks g gV := by
  rcases F.ex with ⟨_, _, _, v1, v2, v3, v4, v5, v6, _, same, _, _, bare | given, _⟩
  · exact absurd bare.1 hd
  · rcases given with ⟨_, T, _, its, _, dv, at_, it, rel⟩
    subst same dv
    refine ⟨fun s us ws inn l1 l2 => BindsTo.of_looks fun M => ?_, hrel⟩
    rcases h T v1 v2 v3 v4 v5 v6 us ws its l1 l2 rel.length.symm with ⟨go, b1, b2⟩
    rw [b1]
    exact looks_items inn at_ it (.of_pure b2)
end

theorem fun_of {K : PySem.W.Frag} {x qual : Str} {st : Stmt} {f : Addr} {fd : FuncData} (F : FunD K x qual (defArgs st) (defBody st) (defScope st) [] [] f fd) : Fun K x qual st f fd := by
  obtain ⟨oc, od, dV, kV, doc, pm, an, cdv, ct, osl, e, lk, hcd, hd, _⟩ := F.ex
  rcases hd with ⟨_, rfl⟩ | ⟨n, _⟩
  · exact ⟨⟨oc, od, kV, doc, pm, an, cdv, ct, osl, e, lk, hcd⟩, F.kp⟩
  · exact absurd rfl n
theorem ex_at {l : List Bool} (h : (l.all id) = true) {i : Nat} {b : Bool} (e : l[i]? = some b) : b = true := List.all_eq_true.mp h b (List.mem_of_getElem? e)
theorem val_int {K : PySem.W.Frag} {a : Addr} {kvs : List (Str × He.Dv)} (h : He.valsB K a kvs = true) {i : Nat} {k : Str} {v : Int} (e : kvs[i]? = some (k, .int v)) : ∃ t, PySem.W.nsIn K a k = some (some (.int v t)) := by
  obtain ⟨u, e1, r⟩ := He.valsB_ok h (List.mem_of_getElem? e)
  obtain ⟨t, rfl⟩ := r
  exact ⟨t, e1⟩
/-- the head's facts, of these addresses -/
abbrev AlY : Type := He.AlT × Bool × List IniV
def obsY (as : List Addr) (fa : List He.Fa) (fn : List He.DefD) (ts : List He.Tab) (ex : PySem.W.Frag → Bool) (er : List ErrD) (g : Addr → Option Obj) : AlY := (He.obsT fa fn ts (He.frG g as), ex (He.frG g as), er.map fun d => iniW (He.frG g as) d.x)
structure SaysY (fa : List He.Fa) (fn : List He.DefD) (ts : List He.Tab) (ex : PySem.W.Frag → Bool) (er : List ErrD) (w : World) (K : PySem.W.Frag) : Prop where
  t : He.SaysT fa fn ts w K
  more : ex K = true
  ini : (er.map fun d => iniW K d.x) = er.map ErrD.val
def hookY (as : List Addr) (fa : List He.Fa) (fn : List He.DefD) (ts : List He.Tab) (ex : PySem.W.Frag → Bool) (er : List ErrD) : PySem.W.Hook where
  α := AlY
  obs := fun s => obsY as fa fn ts ex er s.heap.get?
  val := fun w => (He.valT fn ts w, true, er.map ErrD.val)
  says := fun w h => ∃ K : PySem.W.Frag, K.In h ∧ SaysY fa fn ts ex er w K
  of := fun _ _ e => ⟨_, He.frG_in, congrArg (fun z : AlY => z.1) e, congrArg (fun z : AlY => z.2.1) e, congrArg (fun z : AlY => z.2.2) e⟩
  keeps := fun _ _ _ ⟨K, hK, c⟩ k => ⟨K, PySem.W.Frag.In.keeps hK k, c⟩
theorem obsY_eq {as : List Addr} {fa : List He.Fa} {fn : List He.DefD} {ts : List He.Tab} {ex : PySem.W.Frag → Bool} {er : List ErrD} {g : Addr → Option Obj} {s : Shared} (h : ∀ a, g a = s.heap.get? a) : obsY as fa fn ts ex er g = (hookY as fa fn ts ex er).obs s := by
  have e : g = s.heap.get? := funext h
  rw [e]
  rfl
theorem ini_at {K : PySem.W.Frag} {er : List ErrD} (h : (er.map fun d => iniW K d.x) = er.map ErrD.val) {i : Nat} {d : ErrD} (e : er[i]? = some d) : iniW K d.x = d.val := by
  have h2 : (er.map fun d => iniW K d.x)[i]? = (er.map ErrD.val)[i]? := by rw [h]
  rw [List.getElem?_map, List.getElem?_map, e] at h2
  exact Option.some.inj h2
def dd_is_whole : He.DefD := ⟨("is_whole", none), "is_whole", "is_whole", defArgs s_is_whole, defBody s_is_whole, defScope s_is_whole, [], []⟩
def dd_downward : He.DefD := ⟨("downward", none), "downward", "downward", defArgs s_downward, defBody s_downward, defScope s_downward, [], []⟩
def dd_upward : He.DefD := ⟨("upward", none), "upward", "upward", defArgs s_upward, defBody s_upward, defScope s_upward, [], []⟩
def dd_inward : He.DefD := ⟨("inward", none), "inward", "inward", defArgs s_inward, defBody s_inward, defScope s_inward, [], []⟩
def dd_outward : He.DefD := ⟨("outward", none), "outward", "outward", defArgs s_outward, defBody s_outward, defScope s_outward, [], []⟩
def dd_nearest_greater : He.DefD := ⟨("nearest_greater", none), "nearest_greater", "nearest_greater", defArgs s_nearest_greater, defBody s_nearest_greater, defScope s_nearest_greater, [], []⟩
def dd_nearest_even : He.DefD := ⟨("nearest_even", none), "nearest_even", "nearest_even", defArgs s_nearest_even, defBody s_nearest_even, defScope s_nearest_even, [], []⟩
def dd_nearest_far : He.DefD := ⟨("nearest_far", none), "nearest_far", "nearest_far", defArgs s_nearest_far, defBody s_nearest_far, defScope s_nearest_far, [], []⟩
def dd_is_manner : He.DefD := ⟨("is_manner", none), "is_manner", "is_manner", defArgs s_is_manner, defBody s_is_manner, defScope s_is_manner, [], []⟩
def dd_rounded : He.DefD := ⟨("rounded", none), "rounded", "rounded", defArgs s_rounded, defBody s_rounded, defScope s_rounded, [.str "half"], []⟩
def dd_is_width : He.DefD := ⟨("is_width", none), "is_width", "is_width", defArgs s_is_width, defBody s_is_width, defScope s_is_width, [], []⟩
def dd_is_point : He.DefD := ⟨("is_point", none), "is_point", "is_point", defArgs s_is_point, defBody s_is_point, defScope s_is_point, [], []⟩
def dd_is_ends : He.DefD := ⟨("is_ends", none), "is_ends", "is_ends", defArgs s_is_ends, defBody s_is_ends, defScope s_is_ends, [], []⟩
def dd_is_place : He.DefD := ⟨("is_place", none), "is_place", "is_place", defArgs s_is_place, defBody s_is_place, defScope s_is_place, [], []⟩
def dd_is_factor : He.DefD := ⟨("is_factor", none), "is_factor", "is_factor", defArgs s_is_factor, defBody s_is_factor, defScope s_is_factor, [], []⟩
def dd_in_point : He.DefD := ⟨("in_point", none), "in_point", "in_point", defArgs s_in_point, defBody s_in_point, defScope s_in_point, [], []⟩
def dd_old_point : He.DefD := ⟨("old_point", none), "old_point", "old_point", defArgs s_old_point, defBody s_old_point, defScope s_old_point, [], []⟩
def dd_times_point : He.DefD := ⟨("times_point", none), "times_point", "times_point", defArgs s_times_point, defBody s_times_point, defScope s_times_point, [], []⟩
def dd_sum_point : He.DefD := ⟨("sum_point", none), "sum_point", "sum_point", defArgs s_sum_point, defBody s_sum_point, defScope s_sum_point, [], []⟩
def dd_move_point : He.DefD := ⟨("move_point", none), "move_point", "move_point", defArgs s_move_point, defBody s_move_point, defScope s_move_point, [], []⟩
def dd_keep_point : He.DefD := ⟨("keep_point", none), "keep_point", "keep_point", defArgs s_keep_point, defBody s_keep_point, defScope s_keep_point, [], []⟩
def dd_is_written_as_row : He.DefD := ⟨("is_written_as_row", none), "is_written_as_row", "is_written_as_row", defArgs s_is_written_as_row, defBody s_is_written_as_row, defScope s_is_written_as_row, [], []⟩
def dd_row_point : He.DefD := ⟨("row_point", none), "row_point", "row_point", defArgs s_row_point, defBody s_row_point, defScope s_row_point, [], []⟩
def dd_check_length : He.DefD := ⟨("check_length", none), "check_length", "check_length", defArgs s_check_length, defBody s_check_length, defScope s_check_length, [], []⟩
def dd_check_forms : He.DefD := ⟨("check_forms", none), "check_forms", "check_forms", defArgs s_check_forms, defBody s_check_forms, defScope s_check_forms, [], []⟩
def dd_is_hold : He.DefD := ⟨("is_hold", none), "is_hold", "is_hold", defArgs s_is_hold, defBody s_is_hold, defScope s_is_hold, [], []⟩
def dd_check_holds : He.DefD := ⟨("check_holds", none), "check_holds", "check_holds", defArgs s_check_holds, defBody s_check_holds, defScope s_check_holds, [], []⟩
def dd_checked_points : He.DefD := ⟨("checked_points", none), "checked_points", "checked_points", defArgs s_checked_points, defBody s_checked_points, defScope s_checked_points, [], []⟩
def dd_check_links : He.DefD := ⟨("check_links", none), "check_links", "check_links", defArgs s_check_links, defBody s_check_links, defScope s_check_links, [], []⟩
def dd_enter_form : He.DefD := ⟨("enter_form", none), "enter_form", "enter_form", defArgs s_enter_form, defBody s_enter_form, defScope s_enter_form, [], []⟩
def dd_is_row_number : He.DefD := ⟨("is_row_number", none), "is_row_number", "is_row_number", defArgs s_is_row_number, defBody s_is_row_number, defScope s_is_row_number, [], []⟩
def dd_is_keep_number : He.DefD := ⟨("is_keep_number", none), "is_keep_number", "is_keep_number", defArgs s_is_keep_number, defBody s_is_keep_number, defScope s_is_keep_number, [], []⟩
def dd_swept : He.DefD := ⟨("swept", none), "swept", "swept", defArgs s_swept, defBody s_swept, defScope s_swept, [], []⟩
def dd_without_width : He.DefD := ⟨("without_width", none), "without_width", "without_width", defArgs s_without_width, defBody s_without_width, defScope s_without_width, [], []⟩
def dd_freed : He.DefD := ⟨("freed", none), "freed", "freed", defArgs s_freed, defBody s_freed, defScope s_freed, [], []⟩
def dd_is_state : He.DefD := ⟨("is_state", none), "is_state", "is_state", defArgs s_is_state, defBody s_is_state, defScope s_is_state, [], []⟩
def dd_check_state : He.DefD := ⟨("check_state", none), "check_state", "check_state", defArgs s_check_state, defBody s_check_state, defScope s_check_state, [], []⟩
def dd_check_word : He.DefD := ⟨("check_word", none), "check_word", "check_word", defArgs s_check_word, defBody s_check_word, defScope s_check_word, [], []⟩
def dd_check_run : He.DefD := ⟨("check_run", none), "check_run", "check_run", defArgs s_check_run, defBody s_check_run, defScope s_check_run, [], []⟩
def dd_first_state : He.DefD := ⟨("first_state", none), "first_state", "first_state", defArgs s_first_state, defBody s_first_state, defScope s_first_state, [], []⟩
def dd_sum_number : He.DefD := ⟨("sum_number", none), "sum_number", "sum_number", defArgs s_sum_number, defBody s_sum_number, defScope s_sum_number, [], []⟩
def dd_number_of_row : He.DefD := ⟨("number_of_row", none), "number_of_row", "number_of_row", defArgs s_number_of_row, defBody s_number_of_row, defScope s_number_of_row, [], []⟩
def dd_state_behind : He.DefD := ⟨("state_behind", none), "state_behind", "state_behind", defArgs s_state_behind, defBody s_state_behind, defScope s_state_behind, [], []⟩
def dd_turn_of : He.DefD := ⟨("turn_of", none), "turn_of", "turn_of", defArgs s_turn_of, defBody s_turn_of, defScope s_turn_of, [], []⟩
def dd_went_over : He.DefD := ⟨("went_over", none), "went_over", "went_over", defArgs s_went_over, defBody s_went_over, defScope s_went_over, [], []⟩
def dd_turned : He.DefD := ⟨("turned", none), "turned", "turned", defArgs s_turned, defBody s_turned, defScope s_turned, [], []⟩
def dd_overs : He.DefD := ⟨("overs", none), "overs", "overs", defArgs s_overs, defBody s_overs, defScope s_overs, [], []⟩
def dd_run : He.DefD := ⟨("run", none), "run", "run", defArgs s_run, defBody s_run, defScope s_run, [.non], []⟩
def dd__law_cell_at : He.DefD := ⟨("_law_cell_at", none), "_law_cell_at", "_law_cell_at", defArgs s__law_cell_at, defBody s__law_cell_at, defScope s__law_cell_at, [], []⟩
def dd__law_well : He.DefD := ⟨("_law_well", none), "_law_well", "_law_well", defArgs s__law_well, defBody s__law_well, defScope s__law_well, [], []⟩
def dd__law_draw : He.DefD := ⟨("_law_draw", none), "_law_draw", "_law_draw", defArgs s__law_draw, defBody s__law_draw, defScope s__law_draw, [], []⟩
def dd__law_form : He.DefD := ⟨("_law_form", none), "_law_form", "_law_form", defArgs s__law_form, defBody s__law_form, defScope s__law_form, [], []⟩
def dd__law_word : He.DefD := ⟨("_law_word", none), "_law_word", "_law_word", defArgs s__law_word, defBody s__law_word, defScope s__law_word, [], []⟩
def dd__law_coefficient : He.DefD := ⟨("_law_coefficient", none), "_law_coefficient", "_law_coefficient", defArgs s__law_coefficient, defBody s__law_coefficient, defScope s__law_coefficient, [], []⟩
def dd__law_leaf : He.DefD := ⟨("_law_leaf", none), "_law_leaf", "_law_leaf", defArgs s__law_leaf, defBody s__law_leaf, defScope s__law_leaf, [], []⟩
def dd__law_begun : He.DefD := ⟨("_law_begun", none), "_law_begun", "_law_begun", defArgs s__law_begun, defBody s__law_begun, defScope s__law_begun, [], []⟩
def dd__law_point : He.DefD := ⟨("_law_point", none), "_law_point", "_law_point", defArgs s__law_point, defBody s__law_point, defScope s__law_point, [], []⟩
def dd__law_one_more : He.DefD := ⟨("_law_one_more", none), "_law_one_more", "_law_one_more", defArgs s__law_one_more, defBody s__law_one_more, defScope s__law_one_more, [], []⟩
def dd__law_filled : He.DefD := ⟨("_law_filled", none), "_law_filled", "_law_filled", defArgs s__law_filled, defBody s__law_filled, defScope s__law_filled, [], []⟩
def dd__law_links : He.DefD := ⟨("_law_links", none), "_law_links", "_law_links", defArgs s__law_links, defBody s__law_links, defScope s__law_links, [], []⟩
def dd__law_built_of : He.DefD := ⟨("_law_built_of", none), "_law_built_of", "_law_built_of", defArgs s__law_built_of, defBody s__law_built_of, defScope s__law_built_of, [], []⟩
def dd__law_net : He.DefD := ⟨("_law_net", none), "_law_net", "_law_net", defArgs s__law_net, defBody s__law_net, defScope s__law_net, [], []⟩
def dd__law_made : He.DefD := ⟨("_law_made", none), "_law_made", "_law_made", defArgs s__law_made, defBody s__law_made, defScope s__law_made, [], []⟩
def dd__law_due : He.DefD := ⟨("_law_due", none), "_law_due", "_law_due", defArgs s__law_due, defBody s__law_due, defScope s__law_due, [], []⟩
def dd__law_told : He.DefD := ⟨("_law_told", none), "_law_told", "_law_told", defArgs s__law_told, defBody s__law_told, defScope s__law_told, [], []⟩
def dd__law_refused : He.DefD := ⟨("_law_refused", none), "_law_refused", "_law_refused", defArgs s__law_refused, defBody s__law_refused, defScope s__law_refused, [], []⟩
def dd__law_gone : He.DefD := ⟨("_law_gone", none), "_law_gone", "_law_gone", defArgs s__law_gone, defBody s__law_gone, defScope s__law_gone, [], []⟩
def dd__law_refusals : He.DefD := ⟨("_law_refusals", none), "_law_refusals", "_law_refusals", defArgs s__law_refusals, defBody s__law_refusals, defScope s__law_refusals, [], []⟩
def dd__law_no_room : He.DefD := ⟨("_law_no_room", none), "_law_no_room", "_law_no_room", defArgs s__law_no_room, defBody s__law_no_room, defScope s__law_no_room, [], []⟩
def dd__law_room_right : He.DefD := ⟨("_law_room_right", none), "_law_room_right", "_law_room_right", defArgs s__law_room_right, defBody s__law_room_right, defScope s__law_room_right, [], []⟩
def dd_law : He.DefD := ⟨("law", none), "law", "law", defArgs s_law, defBody s_law, defScope s_law, [], []⟩
def dd_Form_least : He.DefD := ⟨("Form", some "least"), "least", "Form.least", defArgs s_Form_least, defBody s_Form_least, defScope s_Form_least, [], []⟩
def dd_Form_greatest : He.DefD := ⟨("Form", some "greatest"), "greatest", "Form.greatest", defArgs s_Form_greatest, defBody s_Form_greatest, defScope s_Form_greatest, [], []⟩
def dd_Form_has : He.DefD := ⟨("Form", some "has"), "has", "Form.has", defArgs s_Form_has, defBody s_Form_has, defScope s_Form_has, [], []⟩
def dd_Form_word_for : He.DefD := ⟨("Form", some "word_for"), "word_for", "Form.word_for", defArgs s_Form_word_for, defBody s_Form_word_for, defScope s_Form_word_for, [], []⟩
def dd_Form_ended : He.DefD := ⟨("Form", some "ended"), "ended", "Form.ended", defArgs s_Form_ended, defBody s_Form_ended, defScope s_Form_ended, [], []⟩
def dd_Form_kept_at : He.DefD := ⟨("Form", some "kept_at"), "kept_at", "Form.kept_at", defArgs s_Form_kept_at, defBody s_Form_kept_at, defScope s_Form_kept_at, [], []⟩
def dd_Form___eq__ : He.DefD := ⟨("Form", some "__eq__"), "__eq__", "Form.__eq__", defArgs s_Form___eq__, defBody s_Form___eq__, defScope s_Form___eq__, [], []⟩
def dd_Net_forms : He.DefD := ⟨("Net", some "forms"), "forms", "Net.forms", defArgs s_Net_forms, defBody s_Net_forms, defScope s_Net_forms, [], []⟩
def dd_Net_rows : He.DefD := ⟨("Net", some "rows"), "rows", "Net.rows", defArgs s_Net_rows, defBody s_Net_rows, defScope s_Net_rows, [], []⟩
def dd_Net_holds : He.DefD := ⟨("Net", some "holds"), "holds", "Net.holds", defArgs s_Net_holds, defBody s_Net_holds, defScope s_Net_holds, [], []⟩
def dd_Net_points : He.DefD := ⟨("Net", some "points"), "points", "Net.points", defArgs s_Net_points, defBody s_Net_points, defScope s_Net_points, [], []⟩
def dd_Net_enters : He.DefD := ⟨("Net", some "enters"), "enters", "Net.enters", defArgs s_Net_enters, defBody s_Net_enters, defScope s_Net_enters, [], []⟩
def dd_Net_out : He.DefD := ⟨("Net", some "out"), "out", "Net.out", defArgs s_Net_out, defBody s_Net_out, defScope s_Net_out, [], []⟩
def dd_Net_keeps : He.DefD := ⟨("Net", some "keeps"), "keeps", "Net.keeps", defArgs s_Net_keeps, defBody s_Net_keeps, defScope s_Net_keeps, [], []⟩
def dd_Net_start : He.DefD := ⟨("Net", some "start"), "start", "Net.start", defArgs s_Net_start, defBody s_Net_start, defScope s_Net_start, [], []⟩
def dd_Net___len__ : He.DefD := ⟨("Net", some "__len__"), "__len__", "Net.__len__", defArgs s_Net___len__, defBody s_Net___len__, defScope s_Net___len__, [], []⟩
def dd_Net___eq__ : He.DefD := ⟨("Net", some "__eq__"), "__eq__", "Net.__eq__", defArgs s_Net___eq__, defBody s_Net___eq__, defScope s_Net___eq__, [], []⟩
def dd_Net___init__ : He.DefD := ⟨("Net", some "__init__"), "__init__", "Net.__init__", defArgs s_Net___init__, defBody s_Net___init__, defScope s_Net___init__, [], []⟩
def ed_CB : ErrD := ⟨"BadNet", "BadNet.__init__", defArgs s_BadNet___init__, defBody s_BadNet___init__, defScope s_BadNet___init__, true⟩
def dd_Form___init__ : He.DefD := ⟨("Form", some "__init__"), "__init__", "Form.__init__", defArgs s_Form___init__, defBody s_Form___init__, defScope s_Form___init__, [.non, .int 0, .str "half", .str "wrap"], []⟩
def FN_0 : List He.DefD := [dd_is_whole, dd_downward, dd_upward, dd_inward, dd_outward, dd_nearest_greater, dd_nearest_even, dd_nearest_far, dd_is_manner, dd_rounded, dd_is_width, dd_is_point, dd_is_ends, dd_is_place, dd_is_factor, dd_in_point, dd_old_point, dd_times_point, dd_sum_point, dd_move_point]
def FN_1 : List He.DefD := [dd_keep_point, dd_is_written_as_row, dd_row_point, dd_check_length, dd_check_forms, dd_is_hold, dd_check_holds, dd_checked_points, dd_check_links, dd_enter_form, dd_is_row_number, dd_is_keep_number, dd_swept, dd_without_width, dd_freed, dd_is_state, dd_check_state, dd_check_word, dd_check_run, dd_first_state]
def FN_2 : List He.DefD := [dd_sum_number, dd_number_of_row, dd_state_behind, dd_turn_of, dd_went_over, dd_turned, dd_overs, dd_run, dd__law_cell_at, dd__law_well, dd__law_draw, dd__law_form, dd__law_word, dd__law_coefficient, dd__law_leaf, dd__law_begun, dd__law_point, dd__law_one_more, dd__law_filled, dd__law_links]
def FN_3 : List He.DefD := [dd__law_built_of, dd__law_net, dd__law_made, dd__law_due, dd__law_told, dd__law_refused, dd__law_gone, dd__law_refusals, dd__law_no_room, dd__law_room_right, dd_law, dd_Form_least, dd_Form_greatest, dd_Form_has, dd_Form_word_for, dd_Form_ended, dd_Form_kept_at, dd_Form___eq__, dd_Net_forms, dd_Net_rows]
def FN_4 : List He.DefD := [dd_Net_holds, dd_Net_points, dd_Net_enters, dd_Net_out, dd_Net_keeps, dd_Net_start, dd_Net___len__, dd_Net___eq__, dd_Net___init__, dd_Form___init__]
def FN : List He.DefD := FN_0 ++ (FN_1 ++ (FN_2 ++ (FN_3 ++ (FN_4))))
def FA_0 : List He.Fa := [.glo "is_whole", .glo "downward", .glo "upward", .glo "inward", .glo "outward", .glo "nearest_greater", .glo "nearest_even", .glo "nearest_far", .glo "is_manner", .glo "rounded", .glo "is_width", .glo "is_point", .glo "is_ends", .glo "is_place", .glo "is_factor", .glo "in_point", .glo "old_point", .glo "times_point", .glo "sum_point", .glo "move_point"]
def FA_1 : List He.Fa := [.glo "keep_point", .glo "is_written_as_row", .glo "row_point", .glo "check_length", .glo "check_forms", .glo "is_hold", .glo "check_holds", .glo "checked_points", .glo "check_links", .glo "enter_form", .glo "is_row_number", .glo "is_keep_number", .glo "swept", .glo "without_width", .glo "freed", .glo "is_state", .glo "check_state", .glo "check_word", .glo "check_run", .glo "first_state"]
def FA_2 : List He.Fa := [.glo "sum_number", .glo "number_of_row", .glo "state_behind", .glo "turn_of", .glo "went_over", .glo "turned", .glo "overs", .glo "run", .glo "_law_cell_at", .glo "_law_well", .glo "_law_draw", .glo "_law_form", .glo "_law_word", .glo "_law_coefficient", .glo "_law_leaf", .glo "_law_begun", .glo "_law_point", .glo "_law_one_more", .glo "_law_filled", .glo "_law_links"]
def FA_3 : List He.Fa := [.glo "_law_built_of", .glo "_law_net", .glo "_law_made", .glo "_law_due", .glo "_law_told", .glo "_law_refused", .glo "_law_gone", .glo "_law_refusals", .glo "_law_no_room", .glo "_law_room_right", .glo "law", .glo "Form", .cls "Form", .mkr "Form", .noat "Form" "width", .noat "Form" "point", .noat "Form" "manner", .noat "Form" "ends", .glo "Net", .cls "Net"]
def FA_4 : List He.Fa := [.mkr "Net", .noat "Net" "form_list", .noat "Net" "enters_at", .noat "Net" "row_list", .noat "Net" "hold_list", .noat "Net" "out_at", .noat "Net" "point_list", .meth "Form" "least", .meth "Form" "greatest", .meth "Form" "has", .meth "Form" "word_for", .meth "Form" "ended", .meth "Form" "kept_at", .meth "Form" "__eq__", .meth "Net" "forms", .meth "Net" "rows", .meth "Net" "holds", .meth "Net" "points", .meth "Net" "enters", .meth "Net" "out"]
def FA_5 : List He.Fa := [.meth "Net" "keeps", .meth "Net" "start", .meth "Net" "__len__", .meth "Net" "__eq__", .meth "Net" "__init__", .glo "EchoError", .glo "NoChoice", .glo "BadNet", .meth "Form" "__init__", .int "LEAST_WIDTH" 2, .int "GREATEST_WIDTH" 64, .int "GREATEST_POINT" 64, .int "MOST_FORMS" 12, .int "MOST_ROWS" 60, .int "MOST_HOLDS" 6, .int "FACTOR_END" 9223372036854775808, .int "GREATEST_SHIFT" 64, .int "GREATEST_ROW_POINT" 200, .glo "ENDS", .glo "MANNERS"]
def FA_6 : List He.Fa := [.glo "POINT_RULES", .glo "ROW_LENGTHS", .free "isinstance", .free "int", .free "bool", .free "abs", .free "str", .free "len", .free "max", .free "tuple", .free "list", .free "enumerate", .free "all", .free "sorted", .free "set", .free "zip", .free "range", .free "min"]
def FA : List He.Fa := FA_0 ++ (FA_1 ++ (FA_2 ++ (FA_3 ++ (FA_4 ++ (FA_5 ++ (FA_6))))))
def TS_0 : List He.Tab := [(fun K => He.ga K "MANNERS", ["down", "up", "in", "out", "half", "even", "far"]), (fun K => He.ga K "POINT_RULES", ["in", "old", "times", "plus", "less", "move", "keep"]), (fun K => He.ga K "ROW_LENGTHS", ["in", "old", "times", "plus", "less", "move", "keep"])]
def TS : List He.Tab := TS_0
def EXL_0 (K : PySem.W.Frag) : List Bool := [decide (PySem.W.excInitIn K (He.ga K "BadNet") PySem.ErrX.bmA "ArithmeticError.__new__" = true), decide (PySem.W.excOver K (He.ga K "BadNet") PySem.ErrX.bmA = true), decide (PySem.W.findIn K (.ref (He.ga K "BadNet")) "__setattr__" = some (some (.builtin "object.__setattr__"))), decide (PySem.W.findIn K (.ref (He.ga K "BadNet")) "__getattribute__" = some (some (.builtin "BaseException.__getattribute__"))), decide (PySem.W.findIn K (.ref (He.ga K "BadNet")) "__getattr__" = some none), decide (PySem.W.keepIn K (.ref (He.ga K "BadNet")) = true), decide (PySem.W.subIn K (.ref (He.ga K "BadNet")) (.type "BaseException") = some true), decide (PySem.W.typeIn K (.ref (He.ga K "BadNet")) = some (.type "type")), decide (PySem.W.hasDictIn K (He.ga K "BadNet") = true), decide (PySem.W.findIn K (.ref (He.ga K "BadNet")) "__class__" = some (some (.builtin "object.__class__"))), decide (PySem.W.specialIn K (.builtin "object.__class__") "__get__" = some (some (.builtin "getset_descriptor.__get__"))), decide (PySem.W.takesIn K (.builtin "object.__class__") = some true), decide (PySem.W.mroIn K (He.ga K "BadNet") (.type "object") = some true), decide (PySem.W.findIn K (.ref (He.ga K "BadNet")) "__init__" = some (some (.ref (iniA K "BadNet")))), decide (PySem.W.typeIn K (.ref (iniA K "BadNet")) = some (.type "function")), decide (PySem.W.findIn K (.ref (He.ga K "BadNet")) "part" = some none), decide (PySem.W.ks_superIn K (He.ga K "BadNet") (He.ga K "BadNet") "__init__" = some (some (.builtin "ArithmeticError.__init__"))), decide (PySem.W.subIn K (.ref (He.ga K "BadNet")) (.type "ArithmeticError") = some true), decide (PySem.W.mroIn K (He.ga K "BadNet") (.ref (He.ga K "BadNet")) = some true), decide (PySem.W.nsIn K cStatics "thirdparty.any" = some none)]
def EXL_1 (K : PySem.W.Frag) : List Bool := [decide (PySem.W.nsIn K mainGlobals "super" = some none), ed_CB.ok K, decide (PySem.W.excIn K (He.ga K "NoChoice") PySem.ErrX.bmA "ArithmeticError.__new__" = true), decide (PySem.W.keepIn K (.ref (He.ga K "NoChoice")) = true), decide (PySem.W.subIn K (.ref (He.ga K "NoChoice")) (.type "BaseException") = some true), decide (PySem.W.typeIn K (.ref (He.ga K "NoChoice")) = some (.type "type")), decide (PySem.W.findIn K (.ref (He.ga K "NoChoice")) "__getattribute__" = some (some (.builtin "BaseException.__getattribute__"))), decide (PySem.W.findIn K (.ref (He.ga K "NoChoice")) "__getattr__" = some none), decide (PySem.W.hasDictIn K (He.ga K "NoChoice") = true), decide (PySem.W.findIn K (.ref (He.ga K "NoChoice")) "__class__" = some (some (.builtin "object.__class__"))), decide (PySem.W.specialIn K (.builtin "object.__class__") "__get__" = some (some (.builtin "getset_descriptor.__get__"))), decide (PySem.W.takesIn K (.builtin "object.__class__") = some true), decide (PySem.W.mroIn K (He.ga K "NoChoice") (.type "object") = some true), decide (PySem.W.exmOne K (.ref (He.ga K "NoChoice")) (.ref (He.ga K "NoChoice")) = some true), decide (PySem.W.kitOne K (.ref (He.ga K "NoChoice")) (.ref (He.ga K "EchoError")) = some true), decide (PySem.W.exmOne K (.ref (He.ga K "BadNet")) (.ref (He.ga K "BadNet")) = some true), decide (PySem.W.kitOne K (.ref (He.ga K "BadNet")) (.ref (He.ga K "EchoError")) = some true), decide (PySem.W.kitOne K (.ref (He.ga K "BadNet")) (.ref (He.ga K "NoChoice")) = some false), decide (PySem.W.findIn K (.ref (He.ga K "BadNet")) "at" = some none), decide (PySem.W.findIn K (.ref (He.ga K "Net")) "__ne__" = some (some (.builtin "object.__ne__")))]
def EXL_2 (K : PySem.W.Frag) : List Bool := [decide (PySem.W.subIn K (.ref (He.ga K "Net")) (.type "object") = some true), decide (PySem.W.findIn K (.ref (He.ga K "Form")) "__ne__" = some (some (.builtin "object.__ne__"))), decide (PySem.W.subIn K (.ref (He.ga K "Form")) (.type "object") = some true), He.tupB K "ENDS" [.str "wrap", .str "stop"], decide (PySem.W.nsIn K (He.ga K "MANNERS") "down" = some (some (.ref (He.ga K "downward")))), decide (PySem.W.nsIn K (He.ga K "MANNERS") "up" = some (some (.ref (He.ga K "upward")))), decide (PySem.W.nsIn K (He.ga K "MANNERS") "in" = some (some (.ref (He.ga K "inward")))), decide (PySem.W.nsIn K (He.ga K "MANNERS") "out" = some (some (.ref (He.ga K "outward")))), decide (PySem.W.nsIn K (He.ga K "MANNERS") "half" = some (some (.ref (He.ga K "nearest_greater")))), decide (PySem.W.nsIn K (He.ga K "MANNERS") "even" = some (some (.ref (He.ga K "nearest_even")))), decide (PySem.W.nsIn K (He.ga K "MANNERS") "far" = some (some (.ref (He.ga K "nearest_far")))), decide (PySem.W.nsIn K (He.ga K "POINT_RULES") "in" = some (some (.ref (He.ga K "in_point")))), decide (PySem.W.nsIn K (He.ga K "POINT_RULES") "old" = some (some (.ref (He.ga K "old_point")))), decide (PySem.W.nsIn K (He.ga K "POINT_RULES") "times" = some (some (.ref (He.ga K "times_point")))), decide (PySem.W.nsIn K (He.ga K "POINT_RULES") "plus" = some (some (.ref (He.ga K "sum_point")))), decide (PySem.W.nsIn K (He.ga K "POINT_RULES") "less" = some (some (.ref (He.ga K "sum_point")))), decide (PySem.W.nsIn K (He.ga K "POINT_RULES") "move" = some (some (.ref (He.ga K "move_point")))), decide (PySem.W.nsIn K (He.ga K "POINT_RULES") "keep" = some (some (.ref (He.ga K "keep_point")))), He.valsB K (He.ga K "ROW_LENGTHS") [("in", .int 1), ("old", .int 2), ("times", .int 4), ("plus", .int 3), ("less", .int 3), ("move", .int 3), ("keep", .int 3)], decide (PySem.W.findIn K (.ref (He.ga K "Form")) "__class__" = some (some (.builtin "object.__class__")))]
def EXL_3 (K : PySem.W.Frag) : List Bool := [decide (PySem.W.specialIn K (.builtin "object.__class__") "__get__" = some (some (.builtin "getset_descriptor.__get__"))), decide (PySem.W.takesIn K (.builtin "object.__class__") = some true), decide (PySem.W.mroIn K (He.ga K "Form") (.type "object") = some true), decide (PySem.W.kitOne K (.ref (He.ga K "Form")) (.ref (He.ga K "Form")) = some true), decide (PySem.W.findIn K (.ref (He.ga K "Net")) "__class__" = some (some (.builtin "object.__class__"))), decide (PySem.W.mroIn K (He.ga K "Net") (.type "object") = some true), decide (PySem.W.kitOne K (.ref (He.ga K "Net")) (.ref (He.ga K "Net")) = some true)]
def EXL (K : PySem.W.Frag) : List Bool := EXL_0 K ++ (EXL_1 K ++ (EXL_2 K ++ (EXL_3 K)))
def EXB (K : PySem.W.Frag) : Bool := (EXL K).all id
def ER_0 : List ErrD := [ed_CB]
def ER : List ErrD := ER_0
end E1

namespace HX
open PySem PySem.W PySem.Calls PyProof.Rows
abbrev RR : OpenRow := OpenLaw.row PySem.Challenge.rw_echobound_k40_nets_freed
abbrev qv : Program := view RR.prog [107]
def names_0 : List PySem.Str := [("_wall" : PySem.Str), ("__name__" : PySem.Str), ("EchoError" : PySem.Str), ("NoFraction" : PySem.Str), ("BadState" : PySem.Str), ("NoChoice" : PySem.Str), ("BadForm" : PySem.Str), ("Unfit" : PySem.Str), ("BadNet" : PySem.Str), ("GREATEST_POWER" : PySem.Str), ("is_whole" : PySem.Str), ("shared_divisor" : PySem.Str), ("lowest" : PySem.Str), ("times" : PySem.Str), ("divided" : PySem.Str), ("two_to" : PySem.Str), ("downward" : PySem.Str), ("upward" : PySem.Str), ("inward" : PySem.Str), ("outward" : PySem.Str)]
def names_1 : List PySem.Str := [("nearest_greater" : PySem.Str), ("nearest_even" : PySem.Str), ("nearest_far" : PySem.Str), ("MANNERS" : PySem.Str), ("is_manner" : PySem.Str), ("rounded" : PySem.Str), ("LEAST_WIDTH" : PySem.Str), ("GREATEST_WIDTH" : PySem.Str), ("GREATEST_POINT" : PySem.Str), ("ENDS" : PySem.Str), ("is_width" : PySem.Str), ("is_point" : PySem.Str), ("is_ends" : PySem.Str), ("Form" : PySem.Str), ("MOST_FORMS" : PySem.Str), ("MOST_ROWS" : PySem.Str), ("MOST_HOLDS" : PySem.Str), ("FACTOR_END" : PySem.Str), ("GREATEST_SHIFT" : PySem.Str), ("GREATEST_ROW_POINT" : PySem.Str)]
def names_2 : List PySem.Str := [("ROW_LENGTHS" : PySem.Str), ("is_place" : PySem.Str), ("is_factor" : PySem.Str), ("in_point" : PySem.Str), ("old_point" : PySem.Str), ("times_point" : PySem.Str), ("sum_point" : PySem.Str), ("move_point" : PySem.Str), ("keep_point" : PySem.Str), ("POINT_RULES" : PySem.Str), ("is_written_as_row" : PySem.Str), ("row_point" : PySem.Str), ("check_length" : PySem.Str), ("check_forms" : PySem.Str), ("is_hold" : PySem.Str), ("check_holds" : PySem.Str), ("checked_points" : PySem.Str), ("check_links" : PySem.Str), ("Net" : PySem.Str), ("enter_form" : PySem.Str)]
def names_3 : List PySem.Str := [("is_row_number" : PySem.Str), ("is_keep_number" : PySem.Str), ("swept" : PySem.Str), ("without_width" : PySem.Str), ("freed" : PySem.Str), ("is_state" : PySem.Str), ("check_state" : PySem.Str), ("check_word" : PySem.Str), ("check_run" : PySem.Str), ("first_state" : PySem.Str), ("sum_number" : PySem.Str), ("number_of_row" : PySem.Str), ("state_behind" : PySem.Str), ("turn_of" : PySem.Str), ("went_over" : PySem.Str), ("turned" : PySem.Str), ("overs" : PySem.Str), ("run" : PySem.Str), ("_law_cell_at" : PySem.Str), ("_law_well" : PySem.Str)]
def names_4 : List PySem.Str := [("_law_draw" : PySem.Str), ("_law_form" : PySem.Str), ("_law_word" : PySem.Str), ("_law_coefficient" : PySem.Str), ("_law_leaf" : PySem.Str), ("_law_begun" : PySem.Str), ("_law_point" : PySem.Str), ("_law_one_more" : PySem.Str), ("_law_filled" : PySem.Str), ("_law_links" : PySem.Str), ("_law_built_of" : PySem.Str), ("_law_net" : PySem.Str), ("_law_made" : PySem.Str), ("_law_due" : PySem.Str), ("_law_told" : PySem.Str), ("_law_refused" : PySem.Str), ("_law_gone" : PySem.Str), ("_law_refusals" : PySem.Str), ("_law_no_room" : PySem.Str), ("_law_room_right" : PySem.Str)]
def names : List PySem.Str := names_0 ++ (names_1 ++ (names_2 ++ (names_3 ++ (names_4))))
def AS_0 : List Addr := [3, 6, 4, 21, 31, 44, 56, 68, 89, 111, 133, 142, 149, 156, 163, 170, 177, 184, 191, 198, 205, 212, 219, 226, 227, 234, 242, 243, 250, 257]
def AS_1 : List Addr := [264, 401, 406, 413, 420, 427, 434, 441, 448, 455, 462, 463, 470, 477, 484, 491, 498, 505, 512, 519, 614, 625, 632, 639, 646, 653, 658, 663, 670, 677]
def AS_2 : List Addr := [684, 691, 698, 705, 710, 717, 724, 731, 736, 744, 751, 758, 765, 772, 779, 786, 793, 798, 805, 812, 819, 824, 831, 836, 841, 846, 851, 858, 865, 870]
def AS_3 : List Addr := [877, 882, 887, 0, 20, 30, 43, 55, 67, 88, 110, 132, 141, 148, 155, 162, 169, 176, 183, 190, 197, 204, 211, 218, 225, 233, 241, 235, 249, 256]
def AS_4 : List Addr := [263, 400, 412, 419, 426, 433, 440, 447, 454, 461, 469, 476, 483, 490, 497, 504, 511, 518, 613, 624, 631, 638, 645, 652, 657, 662, 669, 676, 683, 690]
def AS_5 : List Addr := [697, 704, 709, 716, 723, 730, 735, 743, 737, 750, 757, 764, 771, 778, 785, 792, 797, 804, 811, 818, 823, 830, 835, 840, 845, 850, 857, 864, 869, 876]
def AS_6 : List Addr := [881, 886, 19, 86, 108, 130, 140, 147, 154, 161, 168, 175, 182, 189, 196, 203, 210, 217, 224, 232, 240, 248, 255, 262, 279, 286, 293, 300, 307, 314]
def AS_7 : List Addr := [321, 328, 335, 342, 349, 356, 363, 370, 377, 384, 391, 398, 411, 418, 425, 432, 439, 446, 453, 460, 468, 475, 482, 489, 496, 503, 510, 517, 531, 538]
def AS_8 : List Addr := [545, 552, 559, 566, 573, 578, 583, 590, 597, 604, 611, 623, 630, 637, 644, 651, 656, 661, 668, 675, 682, 689, 696, 703, 708, 715, 722, 729, 734, 742]
def AS_9 : List Addr := [749, 756, 763, 770, 777, 784, 791, 796, 803, 810, 817, 822, 829, 834, 839, 844, 849, 856, 863, 868, 875, 880, 885, 85, 107, 100, 129, 122, 278, 272]
def AS_10 : List Addr := [285, 292, 299, 306, 313, 320, 327, 334, 341, 348, 355, 362, 369, 376, 383, 390, 397, 530, 537, 544, 551, 558, 565, 572, 577, 582, 589, 596, 603, 610]
def AS_11 : List Addr := [84, 106, 128, 277, 284, 291, 298, 305, 312, 319, 326, 333, 340, 347, 354, 361, 368, 375, 382, 389, 396, 529, 536, 543, 550, 557, 564, 571, 576, 581]
def AS_12 : List Addr := [588, 595, 602, 609, 74, 95, 117, 2]
def AS : List Addr := AS_0 ++ (AS_1 ++ (AS_2 ++ (AS_3 ++ (AS_4 ++ (AS_5 ++ (AS_6 ++ (AS_7 ++ (AS_8 ++ (AS_9 ++ (AS_10 ++ (AS_11 ++ (AS_12))))))))))))
abbrev hk : PySem.W.Hook := E1.hookY AS E1.FA E1.FN E1.TS E1.EXB E1.ER
def ob (s : PySem.W.SharedT) : E1.AlY := E1.obsY AS E1.FA E1.FN E1.TS E1.EXB E1.ER (HandSHeadRun.getT s)
theorem ob_eq (s : PySem.W.SharedT) : ob s = hk.obs s.abs := E1.obsY_eq (HandSHeadRun.getT_eq s)
set_option maxRecDepth 100000 in
set_option maxHeartbeats 0 in
theorem run_f (w : World) : HandSHeadRun.RunEq RR qv hk ob 5965 names (w.withFollow "special-get-raises" false) := fun os => by kernel_rfl
set_option maxRecDepth 100000 in
set_option maxHeartbeats 0 in
theorem run_t (w : World) : HandSHeadRun.RunEq RR qv hk ob 5965 names (w.withFollow "special-get-raises" true) := fun os => by kernel_rfl
theorem run (w : World) : HandSHeadRun.RunEq RR qv hk ob 5965 names w :=
  byRow2 "special-get-raises" (P := fun w => HandSHeadRun.RunEq RR qv hk ob 5965 names w) run_f run_t w
end HX

namespace E1
open PySem PySem.Spec PyProof.Rows L2

def CalD (P : Program) (w : World) (K : PySem.W.Frag) (mg : Str → Option Value) (base : Heap) (k : Nat) (x : Str) (ps : List Str) (dvs : List V) (sp : Sp) : Prop :=
  ∃ (f : Addr) (fd : FuncData) (ds : List Value), mg x = some (.ref f) ∧ PySem.W.keepIn K (.ref f) = true ∧ Vals dvs ds ∧ Binds K fd ps ds ∧ FnOk P w K mg base CX0 k f fd ps sp
theorem pe_cald {X : Cx} {k j : Nat} {x : Str} {ps : List Str} {dvs : List V} {sp : Sp} {e : Expr} {es : List Expr} {t : TA} {p pos : Pos} (c : CalD X.prog X.w X.K X.mg X.base k x ps dvs sp) (hr : Room j X.A) (ha : PA X (e :: es) t) (hle : k ≤ j := by decide) (hg : Gl X x := by rfl)
    (hdb : (x == ("__debug__" : Str)) = false := by decide) (he : starEach (e :: es) X.env = (false, eval e X.env) :: starEach es X.env := by rfl) (hpl : (backTo pos (starEach es X.env)).any (·.1) = false := by rfl) :
    PE X (.Call (.Name x p) (e :: es) [] pos) (tCall sp dvs E0 t) := by
  obtain ⟨f, fd, ds, h1, h2, hd, h3, h4⟩ := c
  exact pe_call h4 (hr.mono hle) hg h1 h2 h3 hd pass0 ha hdb he hpl
def CalK (P : Program) (w : World) (K : PySem.W.Frag) (mg : Str → Option Value) (base : Heap) (k : Nat) (x : Str) (ps : List Str) (n : Nat) (ks : List Str) (gV : List V → List V → List V) (sp : Sp) : Prop :=
  ∃ (f : Addr) (fd : FuncData) (g : List Value → List Value → List Value), mg x = some (.ref f) ∧ PySem.W.keepIn K (.ref f) = true ∧ KBn K fd ps n ks g gV ∧ FnOk P w K mg base CX0 k f fd ps sp
theorem pe_calk {X : Cx} {k j n : Nat} {x : Str} {ps ks : List Str} {gV : List V → List V → List V} {sp : Sp} {e : Expr} {es : List Expr} {kws : List Keyword} {t tk : TA} {p pos : Pos} (c : CalK X.prog X.w X.K X.mg X.base k x ps n ks gV sp) (hr : Room j X.A)
    (ha : PA X (e :: es) t) (hkw : PK X kws tk) (hle : k ≤ j := by decide) (hg : Gl X x := by rfl) (hall : (backToKw pos (keywordEach kws X.env)).all (·.1.isSome) = true := by rfl) (hks : (backToKw pos (keywordEach kws X.env)).filterMap (·.1) = ks := by rfl)
    (hdb : (x == ("__debug__" : Str)) = false := by decide) (he : starEach (e :: es) X.env = (false, eval e X.env) :: starEach es X.env := by rfl)
    (hpl : ((backTo pos (starEach (e :: es) X.env)).any (·.1) || (backToKw pos (keywordEach kws X.env)).any (·.1.isNone)) = false := by rfl) :
    PE X (.Call (.Name x p) (e :: es) kws pos) (tCallN n ks.length sp gV E0 t tk) := by
  obtain ⟨f, fd, g, h1, h2, h3, h4⟩ := c
  exact pe_callN h4 (hr.mono hle) hg h1 h2 h3 pass0 ha hkw hall hks hdb he hpl
theorem pe_calk0 {X : Cx} {k j : Nat} {x : Str} {ps ks : List Str} {gV : List V → List V → List V} {sp : Sp} {kws : List Keyword} {tk : TA} {p pos : Pos} (c : CalK X.prog X.w X.K X.mg X.base k x ps 0 ks gV sp) (hr : Room j X.A)
    (hkw : PK X kws tk) (hle : k ≤ j := by decide) (hg : Gl X x := by rfl) (hall : (backToKw pos (keywordEach kws X.env)).all (·.1.isSome) = true := by rfl) (hks : (backToKw pos (keywordEach kws X.env)).filterMap (·.1) = ks := by rfl)
    (hdb : (x == ("__debug__" : Str)) = false := by decide)
    (hpl : ((backTo pos (starEach [] X.env)).any (·.1) || (backToKw pos (keywordEach kws X.env)).any (·.1.isNone)) = false := by rfl) :
    PE X (.Call (.Name x p) [] kws pos) (tCallN 0 ks.length sp gV E0 tNil tk) := by
  obtain ⟨f, fd, g, h1, h2, h3, h4⟩ := c
  refine ⟨fun pins s σ H Q I h => ?_⟩
  refine wpAny_Call_Name_kw (ld_glob I hg h1 ?_ hdb)
  refine PySem.W.callWith_KW0 (h₀ := X.base) I.ok.mod.kin h2 hall (thn (hkw.run pos pins s σ H _ I h) fun ws s2 ⟨zs, H2, I2, rz, l1, l2, q2⟩ => ⟨I2.kIn, ?_⟩) hpl
  rw [hks]
  exact run_fnN (vs := []) (us := []) h4 (hr.mono hle) h3 pass0 I2 .nil rz l1 l2 q2
/-- a class handed to isinstance -/
theorem isiB {K : PySem.W.Frag} {H : Hp} {x : V} {a b : String} {r : Bool} {Q : VK} (ty : TyX K H x (.type a)) (k : kitB a b = some r) (q : Q (.bl r) H) : rIsi K [x, .ty b] H Q :=
  ⟨x, .ty b, .type a, .type b, r, rfl, .ty _, ty, kit_ty k, q⟩
/-- whether a thing is a whole number -/
def WholeIs (K : PySem.W.Frag) (H : Hp) (x : V) (b : Bool) : Prop := (∃ i, x = .int i ∧ b = true) ∨ (∃ c, x = .bl c ∧ b = false) ∨ (b = false ∧ ∃ t : String, TyX K H x (.type t) ∧ kitB t "int" = some false)
theorem WholeIs.int {K : PySem.W.Frag} {H : Hp} (i : Int) : WholeIs K H (.int i) true := .inl ⟨i, rfl, rfl⟩
def spWhole (K : PySem.W.Frag) : Sp := fun vs H Q _ => ∃ (x : V) (b : Bool), vs = [x] ∧ WholeIs K H x b ∧ Q (.bl b) H
/-! ### the mathematics of fractions in lowest terms -/
def gI (t b : Int) : Int := (Int.gcd t b : Nat)
def lowT (t b : Int) : Int := (if b < 0 then -t else t) / gI t b
def lowB (t b : Int) : Int := (if b < 0 then -b else b) / gI t b
theorem gI_neg (t b : Int) : gI (-t) (-b) = gI t b := by
  unfold gI
  rw [Int.neg_gcd, Int.gcd_neg]
theorem gI_pos {t b : Int} (h : b ≠ 0) : 0 < gI t b := by
  have : 0 < Int.gcd t b := Int.gcd_pos_of_ne_zero_right t h
  unfold gI
  omega
theorem gI_le {t b : Int} (h : b ≠ 0) : (gI t b).natAbs ≤ b.natAbs := by
  have d : Int.gcd t b ∣ b.natAbs := Nat.gcd_dvd_right t.natAbs b.natAbs
  have := Nat.le_of_dvd (by omega) d
  unfold gI
  omega
def spShared : Sp := fun vs H Q _ => ∃ t b : Int, vs = [.int t, .int b] ∧ 0 ≤ b ∧ Q (.int (gI t b)) H
def spLow : Sp := fun vs H Q _ => ∃ t b : Int, vs = [.int t, .int b] ∧ b ≠ 0 ∧ b.natAbs < 2 ^ 4000 ∧ ∀ p, H p = none → Q (.ref p) (upd H p (.tup [.int (lowT t b), .int (lowB t b)]))
/-- two fractions at two places; the tops and bottoms told by f and d -/
def spTwo (K : PySem.W.Frag) (pre : Int → Int → Int → Int → Prop) (f d : Int → Int → Int → Int → Int) : Sp := fun vs H Q _ => ∃ (a c : Addr) (t u v x : Int), vs = [.ref a, .ref c] ∧ SqT K H a [.int t, .int u] ∧ SqT K H c [.int v, .int x] ∧
  pre t u v x ∧ 0 < u ∧ 0 < x ∧ t.natAbs < 2 ^ 1900 ∧ u.natAbs < 2 ^ 1900 ∧ v.natAbs < 2 ^ 1900 ∧ x.natAbs < 2 ^ 1900 ∧ ∀ p, H p = none → Q (.ref p) (upd H p (.tup [.int (lowT (f t u v x) (d t u v x)), .int (lowB (f t u v x) (d t u v x))]))
def spUnder (K : PySem.W.Frag) : Sp := fun vs H Q _ => ∃ (a c : Addr) (t u v x : Int), vs = [.ref a, .ref c] ∧ SqT K H a [.int t, .int u] ∧ SqT K H c [.int v, .int x] ∧
  t.natAbs < 2 ^ 1900 ∧ u.natAbs < 2 ^ 1900 ∧ v.natAbs < 2 ^ 1900 ∧ x.natAbs < 2 ^ 1900 ∧ Q (.bl (decide (t * x < v * u))) H
def absI (t : Int) : Int := if t < 0 then -t else t
def spSize (K : PySem.W.Frag) : Sp := fun vs H Q _ => ∃ (a : Addr) (t u : Int), vs = [.ref a] ∧ SqT K H a [.int t, .int u] ∧ ∀ p, H p = none → Q (.ref p) (upd H p (.tup [.int (absI t), .int u]))
def twoT (m : Int) : Int := if m < 0 then 1 else 2 ^ m.toNat
def twoB (m : Int) : Int := if m < 0 then 2 ^ (-m).toNat else 1
def spTwoTo : Sp := fun vs H Q _ => ∃ m : Int, vs = [.int m] ∧ -400 ≤ m ∧ m ≤ 400 ∧ ∀ p, H p = none → Q (.ref p) (upd H p (.tup [.int (twoT m), .int (twoB m)]))
def spIsFrac : Sp := fun vs H Q _ => ∃ (a : Addr) (t u : Int), vs = [.ref a] ∧ H a = some (.tup [.int t, .int u]) ∧ 1 ≤ u ∧ Q (.bl (decide (gI t u = 1))) H
theorem up {x : Nat} {a b : Nat} (h : x < 2 ^ a) (l : a ≤ b) : x < 2 ^ b := Nat.lt_of_lt_of_le h (Nat.pow_le_pow_right (by decide) l)
theorem up2 {x y : Nat} {a b : Nat} (h : x ≤ y) (h2 : y < 2 ^ a) (l : a ≤ b) : x < 2 ^ b := Nat.lt_of_le_of_lt h (up h2 l)
theorem same_but {H H1 H2 : Hp} {p : Addr} (s : Same H H1) (b : SameBut p H1 H2) (hp : H p = none) : Same H H2 := fun a o e => b a o (ne_of_none e hp) (s a o e)
theorem Same.free {H H' : Hp} {p : Addr} (s : Same H H') (h : H' p = none) : H p = none := by
  cases e : H p with
  | none => rfl
  | some o =>
    rw [s _ _ e] at h
    cases h
structure Zs (mg : Str → Option Value) : Prop where
  isinstance : mg "isinstance" = none
  int : mg "int" = none
  bool : mg "bool" = none
  abs : mg "abs" = none
  str : mg "str" = none
  len : mg "len" = none
  max : mg "max" = none
  tuple : mg "tuple" = none
  list : mg "list" = none
  enumerate : mg "enumerate" = none
  all : mg "all" = none
  sorted : mg "sorted" = none
  set : mg "set" = none
  zip : mg "zip" = none
  range : mg "range" = none
  min : mg "min" = none
section
variable {P : Program} {w : World} {K : PySem.W.Frag} {mg : Str → Option Value} {base : Heap}
theorem sc_is_whole : FnScope ["thing"] ["thing"] (defScope s_is_whole) := ⟨rfl, rfl, rfl, by decide +kernel, rfl, by decide +kernel, by decide +kernel⟩
theorem ok_is_whole {f : Addr} {fd : FuncData} {k : Nat} (F : Fun K "is_whole" "is_whole" s_is_whole f fd) (z : Zs mg) : FnOk P w K mg base CX0 (k + 1) f fd ["thing"] (spWhole K) := by
  refine F.ok sc_is_whole (fun vs H Q E h => ?_) (fun cdv A outer s H vs Q E hr h => ?_)
  · obtain ⟨x, b, rfl, _⟩ := h
    rfl
  · obtain ⟨x, b, rfl, hw, q⟩ := h
    refine ⟨_, (pss_one (ps_ret (pe_and (pe_callB call_isi (by rfl) z.isinstance (by decide +kernel) (pa_cons (pv 0) (pa_cons (pe_bltn (v := .ty "int") (by rfl) z.int (by decide +kernel) rfl) pa_nil))) (pe_one (pe_not (pe_callB call_isi (by rfl) z.isinstance (by decide +kernel) (pa_cons (pv 0) (pa_cons (pe_bltn (v := .ty "bool") (by rfl) z.bool (by decide +kernel) rfl) pa_nil)))))))), ?_⟩
    rcases hw with ⟨i, rfl, rfl⟩ | ⟨c, rfl, rfl⟩ | ⟨rfl, t, ty, kt⟩
    · exact ⟨_, rfl, _, .ty "int", _, _, true, rfl, .ty _, .base (.int i), kit_ty (by decide +kernel), _, rfl, iteT ⟨_, rfl, _, .ty "bool", _, _, false, rfl, .ty _, .base (.int i), kit_ty (by decide +kernel), _, rfl, q⟩⟩
    · exact ⟨_, rfl, _, .ty "int", _, _, true, rfl, .ty _, .base (.bl c), kit_ty (by decide +kernel), _, rfl, iteT ⟨_, rfl, _, .ty "bool", _, _, true, rfl, .ty _, .base (.bl c), kit_ty (by decide +kernel), _, rfl, q⟩⟩
    · exact ⟨_, rfl, _, .ty "int", _, _, false, rfl, .ty _, ty, kit_ty kt, _, rfl, iteF q⟩
theorem sc_shared_divisor : FnScope ["top", "bottom", "one", "other"] ["top", "bottom"] (defScope s_shared_divisor) := ⟨rfl, rfl, rfl, by decide +kernel, rfl, by decide +kernel, by decide +kernel⟩
theorem ok_shared_divisor {f : Addr} {fd : FuncData} {k : Nat} (F : Fun K "shared_divisor" "shared_divisor" s_shared_divisor f fd) (z : Zs mg) : FnOk P w K mg base CX0 (k + 1) f fd ["top", "bottom"] spShared := by
  refine F.ok sc_shared_divisor (fun vs H Q E h => ?_) (fun cdv A outer s H vs Q E hr h => ?_)
  · obtain ⟨t, b, rfl, _⟩ := h
    rfl
  · obtain ⟨t, b, rfl, hb, q⟩ := h
    refine ⟨_, (pss_cons (ps_set (i := 2) sc_shared_divisor.nd rfl (.inl rfl) (pe_callB call_abs (by rfl) z.abs (by decide +kernel) (pa_cons (pv 0) pa_nil)))
      (pss_cons (ps_set (i := 3) sc_shared_divisor.nd rfl (.inl rfl) (pv 1))
      (pss_cons (ps_while PassesOwn.never (pt_truth (pv 3) (by intro _; rfl)) (pss_one (ps_par (i := 2) (j := 3) (by rfl) sc_shared_divisor.nd rfl rfl (by decide) rfl rfl (pa_cons (pv 3) (pa_cons (pe_op op_mod (pv 2) (pv 3)) pa_nil)) (by rfl))))
      (pss_one (ps_ret (pv 2)))))), ?_⟩
    refine ⟨_, rfl, _, rfl, ?_⟩
    refine ⟨_, rfl, ?_⟩
    dsimp only [gName, tSeq]
    refine while_by (fun σ H' => H' = H ∧ ∃ m n : Nat, σ = [some (.int t), some (.int b), some (.int (m : Int)), some (.int (n : Int))] ∧ Nat.gcd m n = Int.gcd t b)
      (fun σ _ => match σ with | [_, _, _, some (.int r)] => r.toNat | _ => 0) ⟨rfl, t.natAbs, b.natAbs, ?_, rfl⟩ (fun σ H1 hP => ?_) (fun σ H Q Q' m hh => ?_)
    · have e1 : (if t < 0 then -t else t) = (t.natAbs : Int) := by split <;> omega
      have e2 : b = (b.natAbs : Int) := by omega
      show [some (V.int t), some (V.int b), some (V.int (if t < 0 then -t else t)), some (V.int b)] = _
      rw [e1, ← e2]
    · obtain ⟨rfl, m, n, rfl, hg⟩ := hP
      refine ⟨_, rfl, _, rfl, ?_⟩
      by_cases hn : n = 0
      · subst hn
        have e : ((((0 : Nat) : Int)) != 0) = false := rfl
        rw [e]
        refine iteF ⟨_, rfl, ?_⟩
        rw [Nat.gcd_zero_right] at hg
        have e2 : (m : Int) = gI t b := by
          unfold gI
          rw [hg]
        rw [e2]
        exact q
      · have e : ((n : Int) != 0) = true := by
          rw [bne_iff_ne]
          omega
        rw [e]
        refine iteT ⟨_, rfl, _, rfl, _, rfl, _, _, rfl, rfl, (by omega), _, _, rfl, ⟨⟨rfl, n, m % n, rfl, ?_⟩, ?_⟩⟩
        · rw [← hg, Nat.gcd_comm n (m % n), ← Nat.gcd_rec n m, Nat.gcd_comm]
        · show ((m : Int) % (n : Int)).toNat < ((n : Int)).toNat
          have := Int.emod_lt_of_pos (m : Int) (show (0 : Int) < n by omega)
          have := Int.emod_nonneg (m : Int) (show (n : Int) ≠ 0 by omega)
          omega
    · obtain ⟨v, e, kk, tv, hq⟩ := hh
      exact ⟨v, e, kk, tv, m _ _ hq⟩
theorem sc_lowest : FnScope ["top", "bottom", "shared"] ["top", "bottom"] (defScope s_lowest) := ⟨rfl, rfl, rfl, by decide +kernel, rfl, by decide +kernel, by decide +kernel⟩
theorem ok_lowest {f : Addr} {fd : FuncData} (F : Fun K "lowest" "lowest" s_lowest f fd) (c_shared_divisor : Cal P w K mg base 1 "shared_divisor" ["top", "bottom"] spShared) : FnOk P w K mg base CX0 2 f fd ["top", "bottom"] spLow := by
  refine F.ok sc_lowest (fun vs H Q E h => ?_) (fun cdv A outer s H vs Q E hr h => ?_)
  · obtain ⟨t, b, rfl, _⟩ := h
    rfl
  · obtain ⟨t, b, rfl, hb, hl, q⟩ := h
    refine ⟨_, (pss_cons (ps_if (pt_cmpR op_lt (pv 1) pe_int (nomark _)) (pss_cons (ps_set (i := 0) sc_lowest.nd rfl (.inl rfl) (pe_un un_neg (pv 0)))
      (pss_one (ps_set (i := 1) sc_lowest.nd rfl (.inl rfl) (pe_un un_neg (pv 1))))) pss_nil)
      (pss_cons (ps_set (i := 2) sc_lowest.nd rfl (.inl rfl) (pe_cal c_shared_divisor hr (pa_cons (pv 0) (pa_cons (pv 1) pa_nil))))
      (pss_one (ps_ret (pe_tup (pa_cons (pe_op op_fdivW (pv 0) (pv 2)) (pa_cons (pe_op op_fdivW (pv 1) (pv 2)) pa_nil))))))), ?_⟩
    have g0 := gI_pos (t := t) hb
    have g1 : (gI t b).natAbs < 2 ^ 4000 := Nat.lt_of_le_of_lt (gI_le hb) hl
    refine ⟨_, rfl, _, _, rfl, rfl, _, rfl, ite2 (fun c => ?_) (fun c => ?_)⟩
    · have hc := toB c
      refine ⟨_, rfl, _, rfl, ?_⟩
      refine ⟨_, rfl, _, rfl, ?_⟩
      refine ⟨_, rfl, _, rfl, -t, -b, rfl, by omega, ?_⟩
      rw [gI_neg]
      refine ⟨_, rfl, _, rfl, _, _, rfl, rfl, wide_div g0 g1 (by decide) (by decide), _, rfl, _, rfl, _, _, rfl, rfl, wide_div g0 g1 (by decide) (by decide), (by show 2 ≤ sizeLine; decide), fun p hp => ?_⟩
      have := q p hp
      unfold lowT lowB at this
      rw [if_pos hc, if_pos hc] at this
      exact this
    · have hc := toNB c
      refine ⟨_, rfl, _, rfl, t, b, rfl, by omega, ?_⟩
      refine ⟨_, rfl, _, rfl, _, _, rfl, rfl, wide_div g0 g1 (by decide) (by decide), _, rfl, _, rfl, _, _, rfl, rfl, wide_div g0 g1 (by decide) (by decide), (by show 2 ≤ sizeLine; decide), fun p hp => ?_⟩
      have := q p hp
      unfold lowT lowB at this
      rw [if_neg hc, if_neg hc] at this
      exact this
theorem sc_times : FnScope ["one", "other"] ["one", "other"] (defScope s_times) := ⟨rfl, rfl, rfl, by decide +kernel, rfl, by decide +kernel, by decide +kernel⟩
theorem ok_times {f : Addr} {fd : FuncData} (F : Fun K "times" "times" s_times f fd) (c_lowest : Cal P w K mg base 2 "lowest" ["top", "bottom"] spLow) : FnOk P w K mg base CX0 3 f fd ["one", "other"] (spTwo K (fun t u v x => True) (fun t u v x => t * v) (fun t u v x => u * x)) := by
  refine F.ok sc_times (fun vs H Q E h => ?_) (fun cdv A outer s H vs Q E hr h => ?_)
  · obtain ⟨a, c, t, u, v, x, rfl, _⟩ := h
    rfl
  · obtain ⟨a, c, t, u, v, x, rfl, ha, hc, pr, hu, hx, b1, b2, b3, b4, q⟩ := h
    refine ⟨_, (pss_one (ps_ret (pe_cal c_lowest hr (pa_cons (pe_op op_mulW (pe_ix ix_tup (pv 0) pe_int (fun _ _ => rfl)) (pe_ix ix_tup (pv 1) pe_int (fun _ _ => rfl))) (pa_cons (pe_op op_mulW (pe_ix ix_tup (pv 0) pe_int (fun _ _ => rfl)) (pe_ix ix_tup (pv 1) pe_int (fun _ _ => rfl))) pa_nil))))), ?_⟩
    have nz : u * x ≠ 0 := Int.mul_ne_zero (by omega) (by omega)
    refine ⟨_, rfl, a, _, 0, .int t, rfl, rfl, ha, a0, _, rfl, c, _, 0, .int v, rfl, rfl, hc, a0, _, _, rfl, rfl, wide_mul b1 b3 (by decide) (by decide) (by decide), _, rfl, a, _, 1, .int u, rfl, rfl, ha, a1, _, rfl, c, _, 1, .int x, rfl, rfl, hc, a1, _, _, rfl, rfl, wide_mul b2 b4 (by decide) (by decide) (by decide), _, _, rfl, nz, ?_, q⟩
    exact Nat.lt_of_lt_of_le (wide_lt b2 b4) (Nat.pow_le_pow_right (by decide) (by decide))
theorem sc_divided : FnScope ["one", "other"] ["one", "other"] (defScope s_divided) := ⟨rfl, rfl, rfl, by decide +kernel, rfl, by decide +kernel, by decide +kernel⟩
theorem ok_divided {f : Addr} {fd : FuncData} (F : Fun K "divided" "divided" s_divided f fd) (c_lowest : Cal P w K mg base 2 "lowest" ["top", "bottom"] spLow) : FnOk P w K mg base CX0 3 f fd ["one", "other"] (spTwo K (fun t u v x => v ≠ 0) (fun t u v x => t * x) (fun t u v x => u * v)) := by
  refine F.ok sc_divided (fun vs H Q E h => ?_) (fun cdv A outer s H vs Q E hr h => ?_)
  · obtain ⟨a, c, t, u, v, x, rfl, _⟩ := h
    rfl
  · obtain ⟨a, c, t, u, v, x, rfl, ha, hc, pr, hu, hx, b1, b2, b3, b4, q⟩ := h
    refine ⟨_, (pss_cons (ps_if (pt_cmpR op_eq (pe_ix ix_tup (pv 1) pe_int (fun _ _ => rfl)) pe_int (nomark _)) (pss_one ps_never) pss_nil)
      (pss_one (ps_ret (pe_cal c_lowest hr (pa_cons (pe_op op_mulW (pe_ix ix_tup (pv 0) pe_int (fun _ _ => rfl)) (pe_ix ix_tup (pv 1) pe_int (fun _ _ => rfl))) (pa_cons (pe_op op_mulW (pe_ix ix_tup (pv 0) pe_int (fun _ _ => rfl)) (pe_ix ix_tup (pv 1) pe_int (fun _ _ => rfl))) pa_nil)))))), ?_⟩
    have nz : u * v ≠ 0 := Int.mul_ne_zero (by omega) pr
    refine ⟨_, rfl, c, _, 0, .int v, rfl, rfl, hc, a0, rfl, _, rfl, ite2 (fun c' => absurd (V.int.inj (toB c')) pr) (fun _ => ?_)⟩
    refine ⟨_, rfl, a, _, 0, .int t, rfl, rfl, ha, a0, _, rfl, c, _, 1, .int x, rfl, rfl, hc, a1, _, _, rfl, rfl, wide_mul b1 b4 (by decide) (by decide) (by decide), _, rfl, a, _, 1, .int u, rfl, rfl, ha, a1, _, rfl, c, _, 0, .int v, rfl, rfl, hc, a0, _, _, rfl, rfl, wide_mul b2 b3 (by decide) (by decide) (by decide), _, _, rfl, nz, ?_, q⟩
    exact Nat.lt_of_lt_of_le (wide_lt b2 b3) (Nat.pow_le_pow_right (by decide) (by decide))
theorem sc_two_to : FnScope ["many"] ["many"] (defScope s_two_to) := ⟨rfl, rfl, rfl, by decide +kernel, rfl, by decide +kernel, by decide +kernel⟩
theorem ok_two_to {f : Addr} {fd : FuncData} (F : Fun K "two_to" "two_to" s_two_to f fd) (z : Zs mg) (c_is_whole : Cal P w K mg base 1 "is_whole" ["thing"] (spWhole K)) (g_GREATEST_POWER : ∃ t, mg "GREATEST_POWER" = some (.int 400 t)) : FnOk P w K mg base CX0 2 f fd ["many"] spTwoTo := by
  refine F.ok sc_two_to (fun vs H Q E h => ?_) (fun cdv A outer s H vs Q E hr h => ?_)
  · obtain ⟨m, rfl, _⟩ := h
    rfl
  · obtain ⟨m, rfl, m0, m1, q⟩ := h
    obtain ⟨tok, gP⟩ := g_GREATEST_POWER
    refine ⟨_, (pss_cons (ps_if (PW.pt (pw_or (pt_not (pt_val (pe_cal c_is_whole hr (pa_cons (pv 0) pa_nil)))) (pw_or1 (pt_cmpR op_gt (pe_callB call_abs (by rfl) z.abs (by decide +kernel) (pa_cons (pv 0) pa_nil)) (pe_glob (v := .int 400) (by rfl) gP ⟨_, rfl⟩) (nomark _))))) (pss_one ps_never) pss_nil)
      (pss_cons (ps_if (pt_cmpR op_lt (pv 0) pe_int (nomark _)) (pss_one (ps_ret (pe_tup (pa_cons pe_int (pa_cons (pe_op op_shl pe_int (pe_un un_neg (pv 0))) pa_nil))))) pss_nil)
      (pss_one (ps_ret (pe_tup (pa_cons (pe_op op_shl pe_int (pv 0)) (pa_cons pe_int pa_nil))))))), ?_⟩
    refine ⟨_, rfl, _, _, rfl, .int m, _, rfl, iteF ⟨_, rfl, _, rfl, _, _, rfl, rfl, _, rfl, ite2 (fun c => ?_) (fun c => ?_)⟩⟩
    · have := toB c
      split at this <;> omega
    · refine ⟨_, rfl, _, _, rfl, rfl, _, rfl, ite2 (fun c2 => ?_) (fun c2 => ?_)⟩
      · have hm := toB c2
        refine ⟨_, rfl, _, rfl, _, _, rfl, rfl, ⟨by omega, by omega, by decide⟩, (by show 2 ≤ sizeLine; decide), fun p hp => ?_⟩
        have e := q p hp
        unfold twoT twoB at e
        rw [if_pos hm, if_pos hm] at e
        show Q (.ref p) (upd H p (.tup [.int 1, .int (1 * 2 ^ (-m).toNat)]))
        rw [Int.one_mul]
        exact e
      · have hm := toNB c2
        refine ⟨_, rfl, _, _, rfl, rfl, ⟨by omega, by omega, by decide⟩, (by show 2 ≤ sizeLine; decide), fun p hp => ?_⟩
        have e := q p hp
        unfold twoT twoB at e
        rw [if_neg hm, if_neg hm] at e
        show Q (.ref p) (upd H p (.tup [.int (1 * 2 ^ m.toNat), .int 1]))
        rw [Int.one_mul]
        exact e
end
end E1

namespace E1
open PySem PySem.Spec PyProof.Rows L2
/-! ### the seven manners -/
inductive Mn where
  | down | up | inn | out | half | even | far
def Mn.str : Mn → Str
  | .down => "down"
  | .up => "up"
  | .inn => "in"
  | .out => "out"
  | .half => "half"
  | .even => "even"
  | .far => "far"
def fDown (t b : Int) : Int := t / b
def fUp (t b : Int) : Int := -(-t / b)
def fHalf (t b : Int) : Int := (2 * t + b) / (2 * b)
def fEven (t b : Int) : Int := if 2 * (fHalf t b * b - t) = b ∧ fHalf t b % 2 ≠ 0 then fHalf t b - 1 else fHalf t b
def fFar (t b : Int) : Int := if t > 0 then fHalf t b else -(fHalf (-t) b)
def fIn (t b : Int) : Int := if t > 0 then fDown t b else fUp t b
def fOut (t b : Int) : Int := if t > 0 then fUp t b else fDown t b
def Mn.f : Mn → Int → Int → Int
  | .down => fDown
  | .up => fUp
  | .inn => fIn
  | .out => fOut
  | .half => fHalf
  | .even => fEven
  | .far => fFar
def lawR (m : Mn) (t b : Int) : Int :=
  match m with
  | .down => t / b
  | .up => if t % b = 0 then t / b else t / b + 1
  | .inn => if t % b = 0 then t / b else t / b + (if t < 0 then 1 else 0)
  | .out => if t % b = 0 then t / b else t / b + (if t > 0 then 1 else 0)
  | .half => if 2 * (t % b) < b then t / b else t / b + 1
  | .even => if 2 * (t % b) < b then t / b else if b < 2 * (t % b) then t / b + 1 else t / b + t / b % 2
  | .far => if 2 * (t % b) < b then t / b else if b < 2 * (t % b) then t / b + 1 else t / b + (if t > 0 then 1 else 0)
theorem div_is {t b q : Int} (hb : 0 < b) (h1 : q * b ≤ t) (h2 : t < q * b + b) : t / b = q := by
  have a1 : q ≤ t / b := Int.le_ediv_of_mul_le hb h1
  have a2 : t / b < q + 1 := Int.ediv_lt_of_lt_mul hb (by rw [Int.add_mul, Int.one_mul]; exact h2)
  omega
theorem dm (t : Int) {b : Int} (hb : 0 < b) : t = t / b * b + t % b ∧ 0 ≤ t % b ∧ t % b < b := by
  refine ⟨?_, Int.emod_nonneg _ (by omega), Int.emod_lt_of_pos _ hb⟩
  have := Int.mul_ediv_add_emod t b
  rw [Int.mul_comm] at this
  omega
theorem fUp_is {t b : Int} (hb : 0 < b) : fUp t b = if t % b = 0 then t / b else t / b + 1 := by
  obtain ⟨e, r0, r1⟩ := dm t hb
  unfold fUp
  generalize t / b = q at *
  generalize t % b = r at *
  split
  · rename_i h
    have := div_is (t := -t) (q := -q) hb (by rw [Int.neg_mul]; omega) (by rw [Int.neg_mul]; omega)
    rw [this]
    omega
  · rename_i h
    have := div_is (t := -t) (q := -q - 1) hb (by rw [Int.sub_mul, Int.neg_mul, Int.one_mul]; omega) (by rw [Int.sub_mul, Int.neg_mul, Int.one_mul]; omega)
    rw [this]
    omega
theorem fHalf_is {t b : Int} (hb : 0 < b) : fHalf t b = if 2 * (t % b) < b then t / b else t / b + 1 := by
  obtain ⟨e, r0, r1⟩ := dm t hb
  unfold fHalf
  generalize t / b = q at *
  generalize t % b = r at *
  have e2 : q * (2 * b) = 2 * (q * b) := Int.mul_left_comm q 2 b
  split
  · rename_i h
    exact div_is (by omega) (by rw [e2]; omega) (by rw [e2]; omega)
  · rename_i h
    exact div_is (by omega) (by rw [Int.add_mul, e2, Int.one_mul]; omega) (by rw [Int.add_mul, e2, Int.one_mul]; omega)
theorem fHalf_neg {t b : Int} (hb : 0 < b) : -(fHalf (-t) b) = if b < 2 * (t % b) then t / b + 1 else t / b := by
  obtain ⟨e, r0, r1⟩ := dm t hb
  unfold fHalf
  generalize t / b = q at *
  generalize t % b = r at *
  have e2 : q * (2 * b) = 2 * (q * b) := Int.mul_left_comm q 2 b
  split
  · rename_i h
    have := div_is (t := 2 * -t + b) (b := 2 * b) (q := -q - 1) (by omega) (by rw [Int.sub_mul, Int.neg_mul, e2, Int.one_mul]; omega) (by rw [Int.sub_mul, Int.neg_mul, e2, Int.one_mul]; omega)
    rw [this]
    omega
  · rename_i h
    have := div_is (t := 2 * -t + b) (b := 2 * b) (q := -q) (by omega) (by rw [Int.neg_mul, e2]; omega) (by rw [Int.neg_mul, e2]; omega)
    rw [this]
    omega
theorem fEven_is {t b : Int} (hb : 0 < b) : fEven t b = lawR .even t b := by
  obtain ⟨e, r0, r1⟩ := dm t hb
  unfold fEven
  rw [fHalf_is hb]
  show _ = if 2 * (t % b) < b then t / b else if b < 2 * (t % b) then t / b + 1 else t / b + t / b % 2
  generalize t / b = q at *
  generalize t % b = r at *
  by_cases h : 2 * r < b
  · rw [if_pos h, if_pos h, if_neg (by intro z; omega)]
  · rw [if_neg h, if_neg h, Int.add_mul, Int.one_mul]
    by_cases h2 : b < 2 * r
    · rw [if_pos h2, if_neg (by intro z; omega)]
    · rw [if_neg h2]
      by_cases h3 : (q + 1) % 2 ≠ 0
      · rw [if_pos ⟨by omega, h3⟩]
        omega
      · rw [if_neg (fun z => h3 z.2)]
        omega
theorem f_lawR (m : Mn) {t b : Int} (hb : 0 < b) : m.f t b = lawR m t b := by
  obtain ⟨e, r0, r1⟩ := dm t hb
  cases m with
  | down => rfl
  | up => exact fUp_is hb
  | inn =>
    show fIn t b = if t % b = 0 then t / b else t / b + (if t < 0 then 1 else 0)
    unfold fIn fDown
    rw [fUp_is hb]
    by_cases h : t > 0
    · rw [if_pos h, if_neg (show ¬ t < 0 by omega)]
      split <;> omega
    · rw [if_neg h]
      by_cases h2 : t < 0
      · rw [if_pos h2]
      · have h3 : t = 0 := by omega
        rw [if_neg h2, h3]
        simp
  | out =>
    show fOut t b = if t % b = 0 then t / b else t / b + (if t > 0 then 1 else 0)
    unfold fOut fDown
    rw [fUp_is hb]
    by_cases h : t > 0
    · rw [if_pos h, if_pos h]
    · rw [if_neg h, if_neg h]
      split <;> omega
  | half => exact fHalf_is hb
  | even => exact fEven_is hb
  | far =>
    show fFar t b = if 2 * (t % b) < b then t / b else if b < 2 * (t % b) then t / b + 1 else t / b + (if t > 0 then 1 else 0)
    unfold fFar
    rw [fHalf_is hb, fHalf_neg hb]
    by_cases h : t > 0
    · rw [if_pos h, if_pos h]
      split
      · rfl
      · split <;> rfl
    · rw [if_neg h, if_neg h]
      by_cases h2 : 2 * (t % b) < b
      · rw [if_pos h2, if_neg (show ¬ b < 2 * (t % b) by omega)]
      · rw [if_neg h2]
        split <;> omega
theorem lt_g {x y g : Int} (hg : 0 < g) : x * g < y * g ↔ x < y := ⟨fun h => Int.lt_of_mul_lt_mul_right h (Int.le_of_lt hg), fun h => Int.mul_lt_mul_of_pos_right h hg⟩
theorem lawR_mul (m : Mn) {t b g : Int} (hb : 0 < b) (hg : 0 < g) : lawR m (t * g) (b * g) = lawR m t b := by
  have e1 : t * g / (b * g) = t / b := Int.mul_ediv_mul_of_pos_left _ _ hg
  have e2 : t * g % (b * g) = t % b * g := by
    rw [Int.mul_comm t g, Int.mul_comm b g, Int.mul_emod_mul_of_pos _ _ hg, Int.mul_comm]
  have c0 : t % b * g = 0 ↔ t % b = 0 := by
    constructor
    · intro h
      rcases Int.mul_eq_zero.mp h with h | h
      · exact h
      · omega
    · intro h
      rw [h, Int.zero_mul]
  have c1 : t * g < 0 ↔ t < 0 := by
    have := lt_g (x := t) (y := 0) hg
    rw [Int.zero_mul] at this
    exact this
  have c2 : t * g > 0 ↔ t > 0 := by
    have := lt_g (x := 0) (y := t) hg
    rw [Int.zero_mul] at this
    exact this
  have c3 : 2 * (t % b * g) < b * g ↔ 2 * (t % b) < b := by
    rw [← Int.mul_assoc]
    exact lt_g hg
  have c4 : b * g < 2 * (t % b * g) ↔ b < 2 * (t % b) := by
    rw [← Int.mul_assoc]
    exact lt_g hg
  cases m <;> simp only [lawR, e1, e2, c0, c1, c2, c3, c4]
theorem lawR_eq (m : Mn) {t b x y : Int} (hb : 0 < b) (hy : 0 < y) (h : x * b = t * y) : lawR m x y = lawR m t b := by
  rw [← lawR_mul m hy hb, h, Int.mul_comm y b, lawR_mul m hb hy]
/-- how far off -/
theorem lawR_off (m : Mn) {t b : Int} (hb : 0 < b) : -b ≤ lawR m t b * b - t ∧ lawR m t b * b - t ≤ b := by
  obtain ⟨e, r0, r1⟩ := dm t hb
  have key : ∀ q' : Int, (q' = t / b ∨ q' = t / b + 1) → -b ≤ q' * b - t ∧ q' * b - t ≤ b := fun q' h => by
    generalize t / b = q at *
    generalize t % b = r at *
    rcases h with rfl | rfl
    · omega
    · rw [Int.add_mul, Int.one_mul]
      omega
  refine key _ ?_
  clear key
  cases m <;> simp only [lawR] <;> (generalize t / b = q at *) <;> (repeat' split) <;> (first | omega | exact .inl trivial)
theorem lawR_near {m : Mn} {t b : Int} (hb : 0 < b) (hm : m = .half ∨ m = .even ∨ m = .far) : -b ≤ 2 * (lawR m t b * b - t) ∧ 2 * (lawR m t b * b - t) ≤ b := by
  obtain ⟨e, r0, r1⟩ := dm t hb
  have key : ∀ q' : Int, ((q' = t / b ∧ 2 * (t % b) ≤ b) ∨ (q' = t / b + 1 ∧ b ≤ 2 * (t % b))) → -b ≤ 2 * (q' * b - t) ∧ 2 * (q' * b - t) ≤ b := fun q' h => by
    generalize t / b = q at *
    generalize t % b = r at *
    rcases h with ⟨rfl, h⟩ | ⟨rfl, h⟩
    · omega
    · rw [Int.add_mul, Int.one_mul]
      omega
  refine key _ ?_
  clear key
  rcases hm with rfl | rfl | rfl <;> simp only [lawR] <;> (generalize t / b = q at *) <;> (repeat' split) <;> omega

def spRnd (g : Int → Int → Int) : Sp := fun vs H Q _ => ∃ t b : Int, vs = [.int t, .int b] ∧ 0 < b ∧ t.natAbs < 2 ^ 910000 ∧ b.natAbs < 2 ^ 4000 ∧ Q (.int (g t b)) H
structure Mans (P : Program) (w : World) (K : PySem.W.Frag) (mg : Str → Option Value) (base : Heap) (dM : Addr) (es : Array DictEntry) (n : Nat) : Prop where
  gm : mg "MANNERS" = some (.ref dM)
  D : KDict K w dM es n
  at_ : ∀ m : Mn, ∃ (f : Addr) (fd : FuncData), PySem.W.nsIn K dM m.str = some (some (.ref f)) ∧ PySem.W.keepIn K (.ref f) = true ∧ Binds K fd ["top", "bottom"] [] ∧ FnOk P w K mg base CX0 2 f fd ["top", "bottom"] (spRnd m.f)
/-- whether a thing is a manner -/
def MannerIs (K : PySem.W.Frag) (H : Hp) (dM : Addr) (x : V) (b : Bool) : Prop := (∃ m : Mn, x = .str m.str ∧ b = true) ∨ (∃ z : Str, x = .str z ∧ PySem.W.nsIn K dM z = some none ∧ b = false) ∨ (b = false ∧ ∃ t : String, TyX K H x (.type t) ∧ kitB t "str" = some false)
def spManner (K : PySem.W.Frag) (dM : Addr) : Sp := fun vs H Q _ => ∃ (x : V) (b : Bool), vs = [x] ∧ MannerIs K H dM x b ∧ Q (.bl b) H
def spRounded (K : PySem.W.Frag) : Sp := fun vs H Q _ => ∃ (a : Addr) (m : Mn) (t b : Int), vs = [.ref a, .str m.str] ∧ SqT K H a [.int t, .int b] ∧ 0 < b ∧ t.natAbs < 2 ^ 910000 ∧ b.natAbs < 2 ^ 4000 ∧ Q (.int (m.f t b)) H
theorem two_b {b : Int} (h : b.natAbs < 2 ^ 4000) : (2 * b).natAbs < 2 ^ 4001 := by
  rw [Int.natAbs_mul, Nat.pow_succ, Nat.mul_comm]
  exact Nat.mul_lt_mul_of_pos_right h (by decide)
theorem half_le {t b : Int} (ht : t.natAbs < 2 ^ 910000) (hb : b.natAbs < 2 ^ 4000) : (fHalf t b).natAbs < 2 ^ 910003 := by
  unfold fHalf
  refine Nat.lt_of_le_of_lt (Int.natAbs_ediv_le_natAbs _ _) ?_
  have h1 : (2 * t + b).natAbs ≤ 2 * t.natAbs + b.natAbs := by omega
  have e3 : ∀ m : Nat, 2 ^ (m + 3) = 2 ^ m * 8 := fun m => Nat.pow_add 2 m 3
  have e : 2 ^ 910003 = 2 ^ 910000 * 8 := by
    rw [show (910003 : Nat) = 910000 + 3 from rfl]
    exact e3 _
  have hb := up hb (show 4000 ≤ 910000 by omega)
  rw [e]
  generalize 2 ^ 910000 = N at *
  omega
section
variable {P : Program} {w : World} {K : PySem.W.Frag} {mg : Str → Option Value} {base : Heap}
theorem sc_downward : FnScope ["top", "bottom"] ["top", "bottom"] (defScope s_downward) := ⟨rfl, rfl, rfl, by decide +kernel, rfl, by decide +kernel, by decide +kernel⟩
theorem ok_downward {f : Addr} {fd : FuncData} {k : Nat} (F : Fun K "downward" "downward" s_downward f fd) : FnOk P w K mg base CX0 (k + 1) f fd ["top", "bottom"] (spRnd fDown) := by
  refine F.ok sc_downward (fun vs H Q E h => ?_) (fun cdv A outer s H vs Q E hr h => ?_)
  · obtain ⟨t, b, rfl, _⟩ := h
    rfl
  · obtain ⟨t, b, rfl, hb, ht, hl, q⟩ := h
    refine ⟨_, (pss_one (ps_ret (pe_op op_fdivW (pv 0) (pv 1)))), ?_⟩
    exact ⟨_, rfl, _, rfl, _, _, rfl, rfl, wide_div hb hl (by decide) (by decide), q⟩
theorem sc_upward : FnScope ["top", "bottom"] ["top", "bottom"] (defScope s_upward) := ⟨rfl, rfl, rfl, by decide +kernel, rfl, by decide +kernel, by decide +kernel⟩
theorem ok_upward {f : Addr} {fd : FuncData} {k : Nat} (F : Fun K "upward" "upward" s_upward f fd) : FnOk P w K mg base CX0 (k + 1) f fd ["top", "bottom"] (spRnd fUp) := by
  refine F.ok sc_upward (fun vs H Q E h => ?_) (fun cdv A outer s H vs Q E hr h => ?_)
  · obtain ⟨t, b, rfl, _⟩ := h
    rfl
  · obtain ⟨t, b, rfl, hb, ht, hl, q⟩ := h
    refine ⟨_, (pss_one (ps_ret (pe_un un_neg (pe_op op_fdivW (pe_un un_neg (pv 0)) (pv 1))))), ?_⟩
    exact ⟨_, rfl, _, rfl, _, rfl, _, _, rfl, rfl, wide_div hb hl (by decide) (by decide), _, rfl, q⟩
theorem sc_inward : FnScope ["top", "bottom"] ["top", "bottom"] (defScope s_inward) := ⟨rfl, rfl, rfl, by decide +kernel, rfl, by decide +kernel, by decide +kernel⟩
theorem ok_inward {f : Addr} {fd : FuncData} (F : Fun K "inward" "inward" s_inward f fd) (c_downward : Cal P w K mg base 1 "downward" ["top", "bottom"] (spRnd fDown)) (c_upward : Cal P w K mg base 1 "upward" ["top", "bottom"] (spRnd fUp)) : FnOk P w K mg base CX0 2 f fd ["top", "bottom"] (spRnd fIn) := by
  refine F.ok sc_inward (fun vs H Q E h => ?_) (fun cdv A outer s H vs Q E hr h => ?_)
  · obtain ⟨t, b, rfl, _⟩ := h
    rfl
  · obtain ⟨t, b, rfl, hb, ht, hl, q⟩ := h
    refine ⟨_, (pss_one (ps_ret (pe_ifExp (pt_cmpR op_gt (pv 0) pe_int (nomark _)) (pe_cal c_downward hr (pa_cons (pv 0) (pa_cons (pv 1) pa_nil))) (pe_cal c_upward hr (pa_cons (pv 0) (pa_cons (pv 1) pa_nil)))))), ?_⟩
    refine ⟨_, rfl, _, _, rfl, rfl, _, rfl, ite2 (fun c => ?_) (fun c => ?_)⟩
    · refine ⟨_, rfl, _, rfl, t, b, rfl, hb, ht, hl, ?_⟩
      have hc : t > 0 := toB c
      unfold fIn at q
      rw [if_pos hc] at q
      exact q
    · refine ⟨_, rfl, _, rfl, t, b, rfl, hb, ht, hl, ?_⟩
      have hc : ¬ t > 0 := toNB c
      unfold fIn at q
      rw [if_neg hc] at q
      exact q
theorem sc_outward : FnScope ["top", "bottom"] ["top", "bottom"] (defScope s_outward) := ⟨rfl, rfl, rfl, by decide +kernel, rfl, by decide +kernel, by decide +kernel⟩
theorem ok_outward {f : Addr} {fd : FuncData} (F : Fun K "outward" "outward" s_outward f fd) (c_downward : Cal P w K mg base 1 "downward" ["top", "bottom"] (spRnd fDown)) (c_upward : Cal P w K mg base 1 "upward" ["top", "bottom"] (spRnd fUp)) : FnOk P w K mg base CX0 2 f fd ["top", "bottom"] (spRnd fOut) := by
  refine F.ok sc_outward (fun vs H Q E h => ?_) (fun cdv A outer s H vs Q E hr h => ?_)
  · obtain ⟨t, b, rfl, _⟩ := h
    rfl
  · obtain ⟨t, b, rfl, hb, ht, hl, q⟩ := h
    refine ⟨_, (pss_one (ps_ret (pe_ifExp (pt_cmpR op_gt (pv 0) pe_int (nomark _)) (pe_cal c_upward hr (pa_cons (pv 0) (pa_cons (pv 1) pa_nil))) (pe_cal c_downward hr (pa_cons (pv 0) (pa_cons (pv 1) pa_nil)))))), ?_⟩
    refine ⟨_, rfl, _, _, rfl, rfl, _, rfl, ite2 (fun c => ?_) (fun c => ?_)⟩
    · refine ⟨_, rfl, _, rfl, t, b, rfl, hb, ht, hl, ?_⟩
      have hc : t > 0 := toB c
      unfold fOut at q
      rw [if_pos hc] at q
      exact q
    · refine ⟨_, rfl, _, rfl, t, b, rfl, hb, ht, hl, ?_⟩
      have hc : ¬ t > 0 := toNB c
      unfold fOut at q
      rw [if_neg hc] at q
      exact q
theorem sc_nearest_greater : FnScope ["top", "bottom"] ["top", "bottom"] (defScope s_nearest_greater) := ⟨rfl, rfl, rfl, by decide +kernel, rfl, by decide +kernel, by decide +kernel⟩
theorem ok_nearest_greater {f : Addr} {fd : FuncData} {k : Nat} (F : Fun K "nearest_greater" "nearest_greater" s_nearest_greater f fd) : FnOk P w K mg base CX0 (k + 1) f fd ["top", "bottom"] (spRnd fHalf) := by
  refine F.ok sc_nearest_greater (fun vs H Q E h => ?_) (fun cdv A outer s H vs Q E hr h => ?_)
  · obtain ⟨t, b, rfl, _⟩ := h
    rfl
  · obtain ⟨t, b, rfl, hb, ht, hl, q⟩ := h
    refine ⟨_, (pss_one (ps_ret (pe_op op_fdivW (pe_op op_add (pe_op op_mul pe_int (pv 0)) (pv 1)) (pe_op op_mul pe_int (pv 1))))), ?_⟩
    exact ⟨_, rfl, _, _, rfl, rfl, .inl ⟨by decide, by decide⟩, _, rfl, _, _, rfl, rfl, _, rfl, _, _, rfl, rfl, .inl ⟨by decide, by decide⟩, _, _, rfl, rfl, wide_div (by omega) (two_b hl) (by decide) (by decide), q⟩
theorem sc_nearest_even : FnScope ["top", "bottom", "near", "halfway"] ["top", "bottom"] (defScope s_nearest_even) := ⟨rfl, rfl, rfl, by decide +kernel, rfl, by decide +kernel, by decide +kernel⟩
theorem ok_nearest_even {f : Addr} {fd : FuncData} (F : Fun K "nearest_even" "nearest_even" s_nearest_even f fd) (c_nearest_greater : Cal P w K mg base 1 "nearest_greater" ["top", "bottom"] (spRnd fHalf)) : FnOk P w K mg base CX0 2 f fd ["top", "bottom"] (spRnd fEven) := by
  refine F.ok sc_nearest_even (fun vs H Q E h => ?_) (fun cdv A outer s H vs Q E hr h => ?_)
  · obtain ⟨t, b, rfl, _⟩ := h
    rfl
  · obtain ⟨t, b, rfl, hb, ht, hl, q⟩ := h
    have hn := half_le ht hl
    refine ⟨_, (pss_cons (ps_set (i := 2) sc_nearest_even.nd rfl (.inl rfl) (pe_cal c_nearest_greater hr (pa_cons (pv 0) (pa_cons (pv 1) pa_nil))))
      (pss_cons (ps_set (i := 3) sc_nearest_even.nd rfl (.inl rfl) (pe_cmpR op_eq (pe_op op_mul pe_int (pe_op op_sub (pe_op op_mulW (pv 2) (pv 1)) (pv 0))) (pv 1) (nomark _)))
      (pss_one (ps_ret (pe_ifExp (PW.pt (pw_and (pt_val (pv 3)) (pw_and1 (pt_truth (pe_op op_and (pv 2) pe_int) (by intro _; rfl))))) (pe_op op_sub (pv 2) pe_int) (pv 2)))))), ?_⟩
    refine ⟨_, rfl, _, rfl, t, b, rfl, hb, ht, hl, ?_⟩
    unfold fEven at q
    generalize fHalf t b = n at *
    refine ⟨_, rfl, _, rfl, _, _, rfl, rfl, wide_mul hn hl (by decide) (by decide) (by decide), _, rfl, _, _, rfl, rfl, _, _, rfl, rfl, .inl ⟨by decide, by decide⟩, _, rfl, rfl, ?_⟩
    have eB : (decide (V.int (2 * (n * b - t)) = V.int b)) = decide (2 * (n * b - t) = b) := by
      by_cases h : 2 * (n * b - t) = b
      · rw [h, decide_eq_true rfl, decide_eq_true rfl]
      · rw [decide_eq_false h, decide_eq_false (fun z => h (V.int.inj z))]
    rw [eB]
    by_cases hc : 2 * (n * b - t) = b
    · rw [decide_eq_true hc]
      refine ⟨_, rfl, _, rfl, iteT ⟨_, rfl, _, _, rfl, rfl, _, rfl, ?_⟩⟩
      rw [PyProof.Rows.bitAnd_m1]
      by_cases h2 : n % 2 ≠ 0
      · have e : (n % 2 != 0) = true := by
          rw [bne_iff_ne]
          exact h2
        rw [e]
        rw [if_pos ⟨hc, h2⟩] at q
        exact iteT ⟨_, rfl, _, _, rfl, rfl, q⟩
      · have e : (n % 2 != 0) = false := by
          have : n % 2 = 0 := by omega
          rw [this]
          rfl
        rw [e]
        rw [if_neg (fun z => h2 z.2)] at q
        exact iteF ⟨_, rfl, q⟩
    · rw [decide_eq_false hc]
      rw [if_neg (fun z => hc z.1)] at q
      exact ⟨_, rfl, _, rfl, iteF (iteF ⟨_, rfl, q⟩)⟩
theorem sc_nearest_far : FnScope ["top", "bottom"] ["top", "bottom"] (defScope s_nearest_far) := ⟨rfl, rfl, rfl, by decide +kernel, rfl, by decide +kernel, by decide +kernel⟩
theorem ok_nearest_far {f : Addr} {fd : FuncData} (F : Fun K "nearest_far" "nearest_far" s_nearest_far f fd) (c_nearest_greater : Cal P w K mg base 1 "nearest_greater" ["top", "bottom"] (spRnd fHalf)) : FnOk P w K mg base CX0 2 f fd ["top", "bottom"] (spRnd fFar) := by
  refine F.ok sc_nearest_far (fun vs H Q E h => ?_) (fun cdv A outer s H vs Q E hr h => ?_)
  · obtain ⟨t, b, rfl, _⟩ := h
    rfl
  · obtain ⟨t, b, rfl, hb, ht, hl, q⟩ := h
    refine ⟨_, (pss_one (ps_ret (pe_ifExp (pt_cmpR op_gt (pv 0) pe_int (nomark _)) (pe_cal c_nearest_greater hr (pa_cons (pv 0) (pa_cons (pv 1) pa_nil))) (pe_un un_neg (pe_cal c_nearest_greater hr (pa_cons (pe_un un_neg (pv 0)) (pa_cons (pv 1) pa_nil))))))), ?_⟩
    refine ⟨_, rfl, _, _, rfl, rfl, _, rfl, ite2 (fun c => ?_) (fun c => ?_)⟩
    · refine ⟨_, rfl, _, rfl, t, b, rfl, hb, ht, hl, ?_⟩
      have hc : t > 0 := toB c
      unfold fFar at q
      rw [if_pos hc] at q
      exact q
    · refine ⟨_, rfl, _, rfl, _, rfl, -t, b, rfl, hb, by rw [Int.natAbs_neg]; exact ht, hl, _, rfl, ?_⟩
      have hc : ¬ t > 0 := toNB c
      unfold fFar at q
      rw [if_neg hc] at q
      exact q
theorem sc_is_manner : FnScope ["thing"] ["thing"] (defScope s_is_manner) := ⟨rfl, rfl, rfl, by decide +kernel, rfl, by decide +kernel, by decide +kernel⟩
theorem ok_is_manner {f : Addr} {fd : FuncData} {k : Nat} {dM : Addr} {es : Array DictEntry} {n : Nat} (M : Mans P w K mg base dM es n) (F : Fun K "is_manner" "is_manner" s_is_manner f fd) (z : Zs mg) : FnOk P w K mg base CX0 (k + 1) f fd ["thing"] (spManner K dM) := by
  refine F.ok sc_is_manner (fun vs H Q E h => ?_) (fun cdv A outer s H vs Q E hr h => ?_)
  · obtain ⟨x, b, rfl, _⟩ := h
    rfl
  · obtain ⟨x, b, rfl, hm, q⟩ := h
    refine ⟨_, (pss_one (ps_ret (pe_and (pe_callB call_isi (by rfl) z.isinstance (by decide +kernel) (pa_cons (pv 0) (pa_cons (pe_bltn (v := .ty "str") (by rfl) z.str (by decide +kernel) rfl) pa_nil))) (pe_one (pe_cmpR (op_in_kd M.D) (pv 0) (pe_glob (v := .ref dM) (by rfl) M.gm rfl) (by rfl)))))), ?_⟩
    rcases hm with ⟨m, rfl, rfl⟩ | ⟨y, rfl, ny, rfl⟩ | ⟨rfl, t, ty, kt⟩
    · obtain ⟨fm, fdm, h1, _⟩ := M.at_ m
      exact ⟨_, rfl, _, .ty "str", _, _, true, rfl, .ty _, .base (.str _), kit_ty (by decide +kernel), _, rfl, iteT ⟨_, rfl, _, _, rfl, rfl, h1, q⟩⟩
    · exact ⟨_, rfl, _, .ty "str", _, _, true, rfl, .ty _, .base (.str _), kit_ty (by decide +kernel), _, rfl, iteT ⟨_, rfl, _, _, rfl, rfl, ny, q⟩⟩
    · exact ⟨_, rfl, _, .ty "str", _, _, false, rfl, .ty _, ty, kit_ty kt, _, rfl, iteF q⟩
theorem sc_rounded : FnScope ["value", "manner", "top", "bottom", "rule"] ["value", "manner"] (defScope s_rounded) := ⟨rfl, rfl, rfl, by decide +kernel, rfl, by decide +kernel, by decide +kernel⟩
theorem ok_rounded {f : Addr} {fd : FuncData} {dvs : List V} {dM : Addr} {es : Array DictEntry} {n : Nat} (M : Mans P w K mg base dM es n) (F : FunD K "rounded" "rounded" (defArgs s_rounded) (defBody s_rounded) (defScope s_rounded) dvs [] f fd) (c_is_manner : Cal P w K mg base 1 "is_manner" ["thing"] (spManner K dM)) : FnOk P w K mg base CX0 3 f fd ["value", "manner"] (spRounded K) := by
  refine F.ok sc_rounded (fun vs H Q E h => ?_) (fun cdv A outer s H vs Q E hr h => ?_)
  · obtain ⟨a, m, t, b, rfl, _⟩ := h
    rfl
  · obtain ⟨a, m, t, b, rfl, ha, hb, ht, hl, q⟩ := h
    obtain ⟨fm, fdm, h1, hK, hB, hF⟩ := M.at_ m
    refine ⟨_, PSs.nox (pss_cons (ps_if (pt_not (pt_val (pe_cal c_is_manner hr (pa_cons (pv 1) pa_nil)))) (pss_one ps_never) pss_nil)
      (pss_cons (ps_asg (pv 0) (pg_tup (by rfl) (pgs_cons (pg_name (i := 2) sc_rounded.nd rfl (.inl rfl)) (pgs_cons (pg_name (i := 3) sc_rounded.nd rfl (.inl rfl)) pgs_nil))))
      (pss_cons (ps_set (i := 4) sc_rounded.nd rfl (.inl rfl) (pe_ix ix_kdict (pe_glob (v := .ref dM) (by rfl) M.gm rfl) (pv 1) (fun _ _ => rfl)))
      (pss_one (ps_ret (pe_callL (i := 4) hF hr rfl (Or.inl rfl) hK hB .nil pass0 (pa_cons (pv 2) (pa_cons (pv 3) pa_nil)))))))), ?_⟩
    refine ⟨_, rfl, _, true, rfl, .inl ⟨m, rfl, rfl⟩, _, rfl, iteF ?_⟩
    refine ⟨_, rfl, a, _, rfl, ha, rfl, _, _, rfl, _, _, rfl, rfl, ?_⟩
    refine ⟨_, rfl, dM, m.str, .ref fm, rfl, rfl, ⟨es, n, _, M.D.at_, M.D.lit, h1, rfl⟩, ?_⟩
    exact ⟨rfl, _, rfl, _, rfl, t, b, rfl, hb, ht, hl, q⟩
end
end E1

namespace E1
open PySem PySem.Spec PyProof.Rows L2

/-! ### objects: methods, making -/
def CalM (P : Program) (w : World) (K : PySem.W.Frag) (mg : Str → Option Value) (base : Heap) (k : Nat) (C : Addr) (m : Str) (ps : List Str) (sp : Sp) : Prop :=
  ∃ (f : Addr) (fd : FuncData), Meth K C m f ∧ Binds K fd ps [] ∧ FnOk P w K mg base CX0 k f fd ps sp
def CalMK (P : Program) (w : World) (K : PySem.W.Frag) (mg : Str → Option Value) (base : Heap) (k : Nat) (C : Addr) (m : Str) (ps ks : List Str) (gV : List V → List V → List V) (sp : Sp) : Prop :=
  ∃ (f : Addr) (fd : FuncData) (g : List Value → List Value → List Value), Meth K C m f ∧ KBn K fd ps 1 ks g gV ∧ FnOk P w K mg base CX0 k f fd ps sp
def CalC (P : Program) (w : World) (K : PySem.W.Frag) (mg : Str → Option Value) (base : Heap) (k : Nat) (x : Str) (C : Addr) (ps : List Str) (dvs : List V) (sp : Sp) : Prop :=
  ∃ (f : Addr) (fd : FuncData) (ds : List Value), Mk K C f ∧ mg x = some (.ref C) ∧ Vals dvs ds ∧ Binds K fd ps ds ∧ FnOk P w K mg base CX0 k f fd ps sp
section
variable {X : Cx} {k j : Nat} {C : Addr} {m x : Str} {ps ks : List Str} {dvs : List V} {sp : Sp} {o e : Expr} {es : List Expr} {ta : TE} {t tk : TA} {apos p pos : Pos} {gV : List V → List V → List V} {kws : List Keyword}
theorem pe_calm {pl : Sem Bool} (he : PE X o ta) (c : Cls X.K C) (h : CalM X.prog X.w X.K X.mg X.base k C m ps sp) (hr : Room j X.A) (ha : PA X (e :: es) t) (hle : k ≤ j := by decide)
    (hst : starEach (e :: es) X.env = (false, eval e X.env) :: starEach es X.env := by rfl) (hpl : (backTo pos (starEach es X.env)).any (·.1) = false := by rfl)
    (ht : eval (.Call (.Attribute o m apos) (e :: es) [] pos) X.env = (do
      let ov ← eval o X.env
      standAt apos.atName
      let (f, first) ← holding [ov] (getMethod ov m pl)
      callWith pos f first (backTo pos (starEach (e :: es) X.env)) (backToKw pos (keywordEach [] X.env))) := by rfl) :
    PE X (.Call (.Attribute o m apos) (e :: es) [] pos) (tMeth C m sp [] E0 ta t) := by
  obtain ⟨f, fd, h1, h2, h3⟩ := h
  exact pe_meth he c h1 h3 (hr.mono hle) h2 .nil pass0 ha hst hpl ht
theorem pe_calm0 {pl : Sem Bool} (he : PE X o ta) (c : Cls X.K C) (h : CalM X.prog X.w X.K X.mg X.base k C m ps sp) (hr : Room j X.A) (hle : k ≤ j := by decide)
    (ht : eval (.Call (.Attribute o m apos) [] [] pos) X.env = (do
      let ov ← eval o X.env
      standAt apos.atName
      let (f, first) ← holding [ov] (getMethod ov m pl)
      callWith pos f first (backTo pos (starEach [] X.env)) (backToKw pos (keywordEach [] X.env))) := by rfl) :
    PE X (.Call (.Attribute o m apos) [] [] pos) (tMeth C m sp [] E0 ta tNil) := by
  obtain ⟨f, fd, h1, h2, h3⟩ := h
  exact pe_meth0 he c h1 h3 (hr.mono hle) h2 .nil pass0 ht
def tMethK (C : Addr) (m : Str) (n : Nat) (sp : Sp) (gV : List V → List V → List V) (ta : TE) (tk : TA) : TE := fun σ H Q => ta σ H fun x H1 => ∃ a dx fs, x = .ref a ∧ H1 a = some (.ins C dx fs) ∧ fs.lookup m = none ∧
  tk σ H1 fun zs H2 => zs.length = n ∧ sp (gV [x] zs) H2 Q E0
theorem pe_calmk0 {pl : Sem Bool} (he : PE X o ta) (c : Cls X.K C) (h : CalMK X.prog X.w X.K X.mg X.base k C m ps ks gV sp) (hr : Room j X.A) (hkw : PK X kws tk) (hle : k ≤ j := by decide)
    (hall : (backToKw pos (keywordEach kws X.env)).all (·.1.isSome) = true := by rfl) (hks : (backToKw pos (keywordEach kws X.env)).filterMap (·.1) = ks := by rfl)
    (hpl : ((backTo pos (starEach [] X.env)).any (·.1) || (backToKw pos (keywordEach kws X.env)).any (·.1.isNone)) = false := by rfl)
    (ht : eval (.Call (.Attribute o m apos) [] kws pos) X.env = (do
      let ov ← eval o X.env
      standAt apos.atName
      let (f, first) ← holding [ov] (getMethod ov m pl)
      callWith pos f first (backTo pos (starEach [] X.env)) (backToKw pos (keywordEach kws X.env))) := by rfl) :
    PE X (.Call (.Attribute o m apos) [] kws pos) (tMethK C m ks.length sp gV ta tk) := by
  obtain ⟨f, fd, g, hm, hb, F⟩ := h
  refine ⟨fun pins s σ H Q I h => ?_⟩
  refine PySem.W.methodCall_KW (pl := pl) (thn (he.run pins s σ H _ I h) fun u s1 ⟨x, H1, I1, rx, a, dx, fs, ex, ea, l, q⟩ => ?_) ht
  subst ex
  obtain rfl : u = Value.ref a := rx
  refine getmeth_ok I1 ea c hm l ?_
  refine PySem.W.callWith_KW0 (first := [.ref a]) (h₀ := X.base) I.ok.mod.kin hm.kp hall (thn (hkw.run pos pins s1 σ H1 _ I1 q) fun ws s2 ⟨zs, H2, I2, rz, l2, q2⟩ => ⟨I2.kIn, ?_⟩) hpl
  rw [hks]
  exact run_fnN (vs := [.ref a]) (us := [.ref a]) F (hr.mono hle) hb pass0 I2 (.cons rfl .nil) rz rfl l2 q2
theorem pe_calc (h : CalC X.prog X.w X.K X.mg X.base k x C ps dvs sp) (hr : Room j X.A) (ha : PA X (e :: es) t) (hle : k + 1 ≤ j := by decide) (hg : Gl X x := by rfl)
    (hdb : (x == ("__debug__" : Str)) = false := by decide) (he : starEach (e :: es) X.env = (false, eval e X.env) :: starEach es X.env := by rfl) (hpl : (backTo pos (starEach es X.env)).any (·.1) = false := by rfl) :
    PE X (.Call (.Name x p) (e :: es) [] pos) (tMake C sp dvs E0 t) := by
  obtain ⟨f, fd, ds, h1, h2, h3, h4, h5⟩ := h
  exact pe_make h1 h5 (hr.mono hle) hg h2 h4 h3 pass0 ha hdb he hpl
end
/-! ### forms -/
def wV : Option Int → V
  | none => .non
  | some w => .int w
def endS : Bool → Str
  | true => "stop"
  | false => "wrap"
def flds (w : Option Int) (pt : Int) (m : Mn) (st : Bool) : List (Str × V) := [("width", wV w), ("point", .int pt), ("manner", .str m.str), ("ends", .str (endS st))]
def WOk (w : Option Int) : Prop := ∀ x, w = some x → 2 ≤ x ∧ x ≤ 64
structure FormAt (C : Addr) (H : Hp) (p : Addr) (w : Option Int) (pt : Int) (m : Mn) (st : Bool) : Prop where
  ob : ∃ dx, H p = some (.ins C dx (flds w pt m st))
  wo : WOk w
  p0 : -64 ≤ pt
  p1 : pt ≤ 64
theorem FormAt.same {C : Addr} {H H' : Hp} {p : Addr} {w : Option Int} {pt : Int} {m : Mn} {st : Bool} (f : FormAt C H p w pt m st) (s : Same H H') : FormAt C H' p w pt m st := by
  obtain ⟨⟨dx, h⟩, a, b, c⟩ := f
  exact ⟨⟨dx, s _ _ h⟩, a, b, c⟩
theorem nPW : (("point" : Str) == "width") = false := by decide +kernel
theorem nMW : (("manner" : Str) == "width") = false := by decide +kernel
theorem nMP : (("manner" : Str) == "point") = false := by decide +kernel
theorem nEW : (("ends" : Str) == "width") = false := by decide +kernel
theorem nEP : (("ends" : Str) == "point") = false := by decide +kernel
theorem nEM : (("ends" : Str) == "manner") = false := by decide +kernel
section
variable {w : Option Int} {pt : Int} {m : Mn} {st : Bool}
theorem fl_w : (flds w pt m st).lookup ("width" : Str) = some (wV w) := by
  unfold flds
  rw [List.lookup_cons, beq_self_eq_true]
theorem fl_p : (flds w pt m st).lookup ("point" : Str) = some (.int pt) := by
  unfold flds
  rw [List.lookup_cons, nPW, List.lookup_cons, beq_self_eq_true]
theorem fl_m : (flds w pt m st).lookup ("manner" : Str) = some (.str m.str) := by
  unfold flds
  rw [List.lookup_cons, nMW, List.lookup_cons, nMP, List.lookup_cons, beq_self_eq_true]
theorem fl_e : (flds w pt m st).lookup ("ends" : Str) = some (.str (endS st)) := by
  unfold flds
  rw [List.lookup_cons, nEW, List.lookup_cons, nEP, List.lookup_cons, nEM, List.lookup_cons, beq_self_eq_true]
theorem fl_no {x : Str} (h : [(x == "width"), (x == "point"), (x == "manner"), (x == "ends")] = [false, false, false, false]) : (flds w pt m st).lookup x = none := by
  have h1 : (x == "width") = false := (List.cons.inj h).1
  have h2 : (x == "point") = false := (List.cons.inj (List.cons.inj h).2).1
  have h3 : (x == "manner") = false := (List.cons.inj (List.cons.inj (List.cons.inj h).2).2).1
  have h4 : (x == "ends") = false := (List.cons.inj (List.cons.inj (List.cons.inj (List.cons.inj h).2).2).2).1
  unfold flds
  rw [List.lookup_cons, h1, List.lookup_cons, h2, List.lookup_cons, h3, List.lookup_cons, h4]
  rfl
theorem ne_of_beq {a b : Str} (h : (b == a) = false) : ¬ a = b := fun e => by
  rw [e, beq_self_eq_true] at h
  cases h
theorem fl_put {a b c d : V} : putF "ends" d (putF "manner" c (putF "point" b (putF "width" a []))) = [(("width" : Str), a), ("point", b), ("manner", c), ("ends", d)] := by
  simp only [putF, if_neg (ne_of_beq nPW), if_neg (ne_of_beq nMW), if_neg (ne_of_beq nMP), if_neg (ne_of_beq nEW), if_neg (ne_of_beq nEP), if_neg (ne_of_beq nEM)]
end
/-- what the walk asks of the class and of the module's constants -/
structure FTxt (K : PySem.W.Frag) (mg : Str → Option Value) (C : Addr) : Prop where
  cl : Cls K C
  nW : NoAttr K C "width"
  nP : NoAttr K C "point"
  nM : NoAttr K C "manner"
  nE : NoAttr K C "ends"
structure FCst (K : PySem.W.Frag) (mg : Str → Option Value) (aE : Addr) : Prop where
  lw : ∃ t, mg "LEAST_WIDTH" = some (.int 2 t)
  gw : ∃ t, mg "GREATEST_WIDTH" = some (.int 64 t)
  gp : ∃ t, mg "GREATEST_POINT" = some (.int 64 t)
  e : mg "ENDS" = some (.ref aE)
  eT : ∀ H, SqT K H aE [.str "wrap", .str "stop"]
def two (n : Int) : Int := 2 ^ n.toNat
def lst (x : Int) : Int := -(two (x - 1))
def grt (x : Int) : Int := two (x - 1) - 1
def lstV : Option Int → V
  | none => .non
  | some x => .int (lst x)
def grtV : Option Int → V
  | none => .non
  | some x => .int (grt x)
def inR : Option Int → Int → Bool
  | none, _ => true
  | some x, n => decide (lst x ≤ n) && decide (n ≤ grt x)
def nearB : Mn → Bool
  | .half => true
  | .even => true
  | .far => true
  | _ => false
/-- the word as which a whole number of steps is kept -/
def wordF (w : Option Int) (st : Bool) (n : Int) : Int := match w with
  | none => n
  | some x => if inR (some x) n = true then n else if st = true then (if n < 0 then lst x else grt x) else (n - lst x) % two x + lst x
def spWidth : Sp := fun vs H Q _ => ∃ w : Option Int, vs = [wV w] ∧ WOk w ∧ Q (.bl true) H
def spPoint : Sp := fun vs H Q _ => ∃ p : Int, vs = [.int p] ∧ -64 ≤ p ∧ p ≤ 64 ∧ Q (.bl true) H
def spEnds : Sp := fun vs H Q _ => ∃ st : Bool, vs = [.str (endS st)] ∧ Q (.bl true) H
def spInit (C : Addr) : Sp := fun vs H Q _ => ∃ (p dx : Addr) (w : Option Int) (pt : Int) (m : Mn) (st : Bool), vs = [.ref p, wV w, .int pt, .str m.str, .str (endS st)] ∧ WOk w ∧ -64 ≤ pt ∧ pt ≤ 64 ∧ H p = some (.ins C dx []) ∧
  ∀ H', FormAt C H' p w pt m st → (∀ b o, b ≠ p → H b = some o → H' b = some o) → (∀ b, b ≠ p → H b = none → H' b = none) → Q .non H'
def spF (C : Addr) (r : Option Int → Int → Mn → Bool → Hp → VK → Prop) : Sp := fun vs H Q _ => ∃ (p : Addr) (w : Option Int) (pt : Int) (m : Mn) (st : Bool), vs = [.ref p] ∧ FormAt C H p w pt m st ∧ r w pt m st H Q
def spLeast (C : Addr) : Sp := spF C fun w _ _ _ H Q => Q (lstV w) H
def spGreatest (C : Addr) : Sp := spF C fun w _ _ _ H Q => Q (grtV w) H
def spStep (C : Addr) : Sp := spF C fun _ pt _ _ H Q => ∀ p, H p = none → Q (.ref p) (upd H p (.tup [.int (twoT (-pt)), .int (twoB (-pt))]))
def spSlack (C : Addr) : Sp := spF C fun _ _ m _ H Q => ∀ p, H p = none → Q (.ref p) (upd H p (.tup [.int 1, .int (if nearB m = true then 2 else 1)]))
def spHas (K : PySem.W.Frag) (C : Addr) : Sp := fun vs H Q _ => ∃ (p : Addr) (w : Option Int) (pt : Int) (m : Mn) (st : Bool) (x : V) (b : Bool), vs = [.ref p, x] ∧ FormAt C H p w pt m st ∧ ((∃ n, x = .int n ∧ b = inR w n) ∨ (WholeIs K H x false ∧ b = false)) ∧ Q (.bl b) H
def spWord (C : Addr) : Sp := fun vs H Q _ => ∃ (p : Addr) (w : Option Int) (pt : Int) (m : Mn) (st : Bool) (n : Int), vs = [.ref p, .int n] ∧ FormAt C H p w pt m st ∧ Q (.int (wordF w st n)) H
/-- how many steps a value is, rounded -/
def steps (pt : Int) (m : Mn) (t b : Int) : Int := m.f (lowT (t * twoB (-pt)) (b * twoT (-pt))) (lowB (t * twoB (-pt)) (b * twoT (-pt)))
def spKept (K : PySem.W.Frag) (C : Addr) : Sp := fun vs H Q _ => ∃ (p : Addr) (w : Option Int) (pt : Int) (m : Mn) (st : Bool) (a : Addr) (t b : Int), vs = [.ref p, .ref a] ∧ FormAt C H p w pt m st ∧ SqT K H a [.int t, .int b] ∧ 0 < b ∧ t.natAbs < 2 ^ 1500 ∧ b.natAbs < 2 ^ 1500 ∧
  ∀ (r : Addr) (H' : Hp), H r = none → Same H H' → H' r = some (.tup [.int (wordF w st (steps pt m t b)), .int (steps pt m t b - wordF w st (steps pt m t b))]) → Q (.ref r) H'
theorem two_pos (n : Int) : 0 < two n := by
  unfold two
  exact Int.pow_pos (by decide)
theorem twoT_pos (n : Int) : 0 < twoT n := by
  unfold twoT
  split
  · decide
  · exact Int.pow_pos (by decide)
theorem twoB_pos (n : Int) : 0 < twoB n := by
  unfold twoB
  split
  · exact Int.pow_pos (by decide)
  · decide
theorem two_lt {n : Int} {k : Nat} (h : n.toNat < k) : (2 ^ n.toNat : Int).natAbs < 2 ^ k := by
  rw [Int.natAbs_pow]
  exact Nat.pow_lt_pow_right (by decide) h
theorem twoT_lt {n : Int} (h1 : n ≤ 64) : (twoT n).natAbs < 2 ^ 65 := by
  unfold twoT
  split
  · decide
  · exact two_lt (by omega)
theorem twoB_lt {n : Int} (h1 : -64 ≤ n) : (twoB n).natAbs < 2 ^ 65 := by
  unfold twoB
  split
  · exact two_lt (by omega)
  · decide
theorem low_pos' {t b : Int} (hb : b ≠ 0) : 0 < lowB t b := by
  have g0 := gI_pos (t := t) hb
  have g1 := gI_le (t := t) hb
  have : 1 ≤ lowB t b := by
    unfold lowB
    refine (Int.le_ediv_iff_mul_le g0).mpr ?_
    split <;> omega
  omega
theorem lowT_le {t b : Int} : (lowT t b).natAbs ≤ t.natAbs := by
  unfold lowT
  refine Nat.le_trans (Int.natAbs_ediv_le_natAbs _ _) ?_
  split <;> omega
theorem lowB_le {t b : Int} : (lowB t b).natAbs ≤ b.natAbs := by
  unfold lowB
  refine Nat.le_trans (Int.natAbs_ediv_le_natAbs _ _) ?_
  split <;> omega
section
variable {P : Program} {w : World} {K : PySem.W.Frag} {mg : Str → Option Value} {base : Heap}
theorem sc_is_width : FnScope ["thing"] ["thing"] (defScope s_is_width) := ⟨rfl, rfl, rfl, by decide +kernel, rfl, by decide +kernel, by decide +kernel⟩
theorem ok_is_width {f : Addr} {fd : FuncData} {aE : Addr} (Z : FCst K mg aE) (F : Fun K "is_width" "is_width" s_is_width f fd) (c_is_whole : Cal P w K mg base 1 "is_whole" ["thing"] (spWhole K)) : FnOk P w K mg base CX0 2 f fd ["thing"] spWidth := by
  refine F.ok sc_is_width (fun vs H Q E h => ?_) (fun cdv A outer s H vs Q E hr h => ?_)
  · obtain ⟨w, rfl, _⟩ := h
    rfl
  · obtain ⟨w, rfl, hw, q⟩ := h
    obtain ⟨_, gLW⟩ := Z.lw
    obtain ⟨_, gGW⟩ := Z.gw
    refine ⟨_, (pss_one (ps_ret (pe_or (pe_cmpR op_isN (pv 0) pe_non (nomark _)) (pe_one (pe_and (pe_cal c_is_whole hr (pa_cons (pv 0) pa_nil)) (pe_one (pe_chain op_le op_le (pe_glob (v := .int 2) (by rfl) gLW ⟨_, rfl⟩) (pv 0) (pe_glob (v := .int 64) (by rfl) gGW ⟨_, rfl⟩)))))))), ?_⟩
    cases w with
    | none => exact ⟨_, rfl, rfl, _, rfl, iteT q⟩
    | some x =>
      obtain ⟨h1, h2⟩ := hw x rfl
      refine ⟨_, rfl, rfl, _, rfl, iteF ⟨_, rfl, _, _, rfl, .int x, _, rfl, iteT ⟨_, rfl, _, _, rfl, rfl, _, rfl, ?_⟩⟩⟩
      rw [decide_eq_true h1]
      refine iteT ⟨_, _, rfl, rfl, ?_⟩
      show Q (.bl (decide (x ≤ 64))) H
      rw [decide_eq_true h2]
      exact q
theorem sc_is_point : FnScope ["thing"] ["thing"] (defScope s_is_point) := ⟨rfl, rfl, rfl, by decide +kernel, rfl, by decide +kernel, by decide +kernel⟩
theorem ok_is_point {f : Addr} {fd : FuncData} {aE : Addr} (Z : FCst K mg aE) (F : Fun K "is_point" "is_point" s_is_point f fd) (z : Zs mg) (c_is_whole : Cal P w K mg base 1 "is_whole" ["thing"] (spWhole K)) : FnOk P w K mg base CX0 2 f fd ["thing"] spPoint := by
  refine F.ok sc_is_point (fun vs H Q E h => ?_) (fun cdv A outer s H vs Q E hr h => ?_)
  · obtain ⟨x, rfl, _⟩ := h
    rfl
  · obtain ⟨x, rfl, h1, h2, q⟩ := h
    obtain ⟨_, gGP⟩ := Z.gp
    refine ⟨_, (pss_one (ps_ret (pe_and (pe_cal c_is_whole hr (pa_cons (pv 0) pa_nil)) (pe_one (pe_cmpR op_le (pe_callB call_abs (by rfl) z.abs (by decide +kernel) (pa_cons (pv 0) pa_nil)) (pe_glob (v := .int 64) (by rfl) gGP ⟨_, rfl⟩) (nomark _)))))), ?_⟩
    refine ⟨_, rfl, _, _, rfl, .int x, _, rfl, iteT ⟨_, rfl, _, rfl, _, _, rfl, rfl, ?_⟩⟩
    show Q (.bl (decide ((if x < 0 then -x else x) ≤ 64))) H
    rw [decide_eq_true (show (if x < 0 then -x else x) ≤ 64 by split <;> omega)]
    exact q
theorem sc_is_ends : FnScope ["thing"] ["thing"] (defScope s_is_ends) := ⟨rfl, rfl, rfl, by decide +kernel, rfl, by decide +kernel, by decide +kernel⟩
theorem ok_is_ends {f : Addr} {fd : FuncData} {k : Nat} {aE : Addr} (Z : FCst K mg aE) (F : Fun K "is_ends" "is_ends" s_is_ends f fd) (z : Zs mg) : FnOk P w K mg base CX0 (k + 1) f fd ["thing"] spEnds := by
  refine F.ok sc_is_ends (fun vs H Q E h => ?_) (fun cdv A outer s H vs Q E hr h => ?_)
  · obtain ⟨st, rfl, _⟩ := h
    rfl
  · obtain ⟨st, rfl, q⟩ := h
    refine ⟨_, (pss_one (ps_ret (pe_and (pe_callB call_isi (by rfl) z.isinstance (by decide +kernel) (pa_cons (pv 0) (pa_cons (pe_bltn (v := .ty "str") (by rfl) z.str (by decide +kernel) rfl) pa_nil))) (pe_one (pe_cmpR op_in_seq (pv 0) (pe_glob (v := .ref aE) (by rfl) Z.e rfl) (by rfl)))))), ?_⟩
    refine ⟨_, rfl, _, .ty "str", _, _, true, rfl, .ty _, .base (.str _), kit_ty (by decide +kernel), _, rfl, iteT ⟨_, rfl, aE, _, rfl, .inr (Z.eT _), rfl, rfl, ?_⟩⟩
    cases st with
    | true =>
      rw [show inV (V.str (endS true)) [V.str "wrap", V.str "stop"] = true by decide +kernel]
      exact q
    | false =>
      rw [show inV (V.str (endS false)) [V.str "wrap", V.str "stop"] = true by decide +kernel]
      exact q
theorem sc_Form___init__ : FnScope ["self", "width", "point", "manner", "ends"] ["self", "width", "point", "manner", "ends"] (defScope s_Form___init__) := ⟨rfl, rfl, rfl, by decide +kernel, rfl, by decide +kernel, by decide +kernel⟩
theorem ok_Form___init__ {f : Addr} {fd : FuncData} {dM : Addr} {dvs : List V} {C : Addr} (T : FTxt K mg C) (F : FunD K "__init__" "Form.__init__" (defArgs s_Form___init__) (defBody s_Form___init__) (defScope s_Form___init__) dvs [] f fd) (c_is_width : Cal P w K mg base 2 "is_width" ["thing"] spWidth) (c_is_point : Cal P w K mg base 2 "is_point" ["thing"] spPoint) (c_is_manner : Cal P w K mg base 1 "is_manner" ["thing"] (spManner K dM)) (c_is_ends : Cal P w K mg base 1 "is_ends" ["thing"] spEnds) : FnOk P w K mg base CX0 3 f fd ["self", "width", "point", "manner", "ends"] (spInit C) := by
  refine F.ok sc_Form___init__ (fun vs H Q E h => ?_) (fun cdv A outer s H vs Q E hr h => ?_)
  · obtain ⟨p, dx, w, pt, m, st, rfl, _⟩ := h
    rfl
  · obtain ⟨p, dx, w, pt, m, st, rfl, hw, h0, h1, hp, q⟩ := h
    refine ⟨_, PSs.nox (pss_cons (ps_if (pt_not (pt_val (pe_cal c_is_width hr (pa_cons (pv 1) pa_nil)))) (pss_one ps_never) pss_nil)
      (pss_cons (ps_if (pt_not (pt_val (pe_cal c_is_point hr (pa_cons (pv 2) pa_nil)))) (pss_one ps_never) pss_nil)
      (pss_cons (ps_if (pt_not (pt_val (pe_cal c_is_manner hr (pa_cons (pv 3) pa_nil)))) (pss_one ps_never) pss_nil)
      (pss_cons (ps_if (pt_not (pt_val (pe_cal c_is_ends hr (pa_cons (pv 4) pa_nil)))) (pss_one ps_never) pss_nil)
      (pss_cons (ps_fld (pv 0) (pv 1) rfl)
      (pss_cons (ps_fld (pv 0) (pv 2) rfl)
      (pss_cons (ps_fld (pv 0) (pv 3) rfl)
      (pss_one (ps_fld (pv 0) (pv 4) rfl))))))))), ?_⟩
    refine ⟨_, rfl, w, rfl, hw, _, rfl, iteF ?_⟩
    refine ⟨_, rfl, pt, rfl, h0, h1, _, rfl, iteF ?_⟩
    refine ⟨_, rfl, _, true, rfl, .inl ⟨m, rfl, rfl⟩, _, rfl, iteF ?_⟩
    refine ⟨_, rfl, st, rfl, _, rfl, iteF ?_⟩
    refine ⟨_, rfl, _, rfl, p, C, dx, [], rfl, hp, T.cl, T.nW, (by show 0 < 1000; decide), ?_⟩
    refine ⟨_, rfl, _, rfl, p, C, dx, _, rfl, upd_same, T.cl, T.nP, (by show 1 < 1000; decide), ?_⟩
    refine ⟨_, rfl, _, rfl, p, C, dx, _, rfl, upd_same, T.cl, T.nM, ?_, ?_⟩
    · simp only [putF, if_neg (ne_of_beq nPW)]
      show 2 < 1000
      decide
    refine ⟨_, rfl, _, rfl, p, C, dx, _, rfl, upd_same, T.cl, T.nE, ?_, ?_⟩
    · simp only [putF, if_neg (ne_of_beq nPW), if_neg (ne_of_beq nMW), if_neg (ne_of_beq nMP)]
      show 3 < 1000
      decide
    refine q _ ⟨⟨dx, ?_⟩, hw, h0, h1⟩ (fun b o hb e => ?_) (fun b hb e => ?_)
    · rw [upd_same]
      exact congrArg (fun l => some (HO.ins C dx l)) fl_put
    · rw [upd_ne hb, upd_ne hb, upd_ne hb, upd_ne hb]
      exact e
    · rw [upd_ne hb, upd_ne hb, upd_ne hb, upd_ne hb]
      exact e
theorem sc_Form_least : FnScope ["self"] ["self"] (defScope s_Form_least) := ⟨rfl, rfl, rfl, by decide +kernel, rfl, by decide +kernel, by decide +kernel⟩
theorem ok_Form_least {f : Addr} {fd : FuncData} {k : Nat} {C : Addr} (T : FTxt K mg C) (F : Fun K "least" "Form.least" s_Form_least f fd) : FnOk P w K mg base CX0 (k + 1) f fd ["self"] (spLeast C) := by
  refine F.ok sc_Form_least (fun vs H Q E h => ?_) (fun cdv A outer s H vs Q E hr h => ?_)
  · obtain ⟨p, w, pt, m, st, rfl, _⟩ := h
    rfl
  · obtain ⟨p, w, pt, m, st, rfl, ⟨⟨dx, ho⟩, hw, _, _⟩, q⟩ := h
    refine ⟨_, (pss_one (ps_ret (pe_ifExp (pt_cmpR op_isN (pe_fld (pv 0) rfl) pe_non (nomark _)) pe_non (pe_un un_neg (pe_op op_shl pe_int (pe_op op_sub (pe_fld (pv 0) rfl) pe_int)))))), ?_⟩
    refine ⟨_, rfl, p, C, dx, _, _, rfl, ho, T.cl, T.nW, fl_w, rfl, _, rfl, ?_⟩
    cases w with
    | none => exact iteT q
    | some x =>
      obtain ⟨h1, h2⟩ := hw x rfl
      refine iteF ⟨_, rfl, p, C, dx, _, _, rfl, ho, T.cl, T.nW, fl_w, _, _, rfl, rfl, _, _, rfl, rfl, ⟨by omega, by omega, by decide⟩, _, rfl, ?_⟩
      have e : (1 : Int) * 2 ^ (x - 1).toNat = two (x - 1) := Int.one_mul _
      rw [e]
      exact q
theorem sc_Form_greatest : FnScope ["self"] ["self"] (defScope s_Form_greatest) := ⟨rfl, rfl, rfl, by decide +kernel, rfl, by decide +kernel, by decide +kernel⟩
theorem ok_Form_greatest {f : Addr} {fd : FuncData} {k : Nat} {C : Addr} (T : FTxt K mg C) (F : Fun K "greatest" "Form.greatest" s_Form_greatest f fd) : FnOk P w K mg base CX0 (k + 1) f fd ["self"] (spGreatest C) := by
  refine F.ok sc_Form_greatest (fun vs H Q E h => ?_) (fun cdv A outer s H vs Q E hr h => ?_)
  · obtain ⟨p, w, pt, m, st, rfl, _⟩ := h
    rfl
  · obtain ⟨p, w, pt, m, st, rfl, ⟨⟨dx, ho⟩, hw, _, _⟩, q⟩ := h
    refine ⟨_, (pss_one (ps_ret (pe_ifExp (pt_cmpR op_isN (pe_fld (pv 0) rfl) pe_non (nomark _)) pe_non (pe_op op_sub (pe_op op_shl pe_int (pe_op op_sub (pe_fld (pv 0) rfl) pe_int)) pe_int)))), ?_⟩
    refine ⟨_, rfl, p, C, dx, _, _, rfl, ho, T.cl, T.nW, fl_w, rfl, _, rfl, ?_⟩
    cases w with
    | none => exact iteT q
    | some x =>
      obtain ⟨h1, h2⟩ := hw x rfl
      refine iteF ⟨_, rfl, p, C, dx, _, _, rfl, ho, T.cl, T.nW, fl_w, _, _, rfl, rfl, _, _, rfl, rfl, ⟨by omega, by omega, by decide⟩, _, _, rfl, rfl, ?_⟩
      have e : (1 : Int) * 2 ^ (x - 1).toNat = two (x - 1) := Int.one_mul _
      rw [e]
      exact q
theorem sc_Form_has : FnScope ["self", "thing"] ["self", "thing"] (defScope s_Form_has) := ⟨rfl, rfl, rfl, by decide +kernel, rfl, by decide +kernel, by decide +kernel⟩
theorem ok_Form_has {f : Addr} {fd : FuncData} {C : Addr} (T : FTxt K mg C) (F : Fun K "has" "Form.has" s_Form_has f fd) (c_is_whole : Cal P w K mg base 1 "is_whole" ["thing"] (spWhole K)) (m_least : CalM P w K mg base 1 C "least" ["self"] (spLeast C)) (m_greatest : CalM P w K mg base 1 C "greatest" ["self"] (spGreatest C)) : FnOk P w K mg base CX0 2 f fd ["self", "thing"] (spHas K C) := by
  refine F.ok sc_Form_has (fun vs H Q E h => ?_) (fun cdv A outer s H vs Q E hr h => ?_)
  · obtain ⟨p, w, pt, m, st, x, b, rfl, _⟩ := h
    rfl
  · obtain ⟨p, w, pt, m, st, x, b, rfl, hf, hx, q⟩ := h
    obtain ⟨⟨dx, ho⟩, hw, _, _⟩ := id hf
    refine ⟨_, (pss_cons (ps_if (pt_not (pt_val (pe_cal c_is_whole hr (pa_cons (pv 1) pa_nil)))) (pss_one (ps_ret pe_bl)) pss_nil)
      (pss_one (ps_ret (pe_or (pe_cmpR op_isN (pe_fld (pv 0) rfl) pe_non (nomark _)) (pe_one (pe_chain op_le op_le (pe_calm0 (pv 0) T.cl m_least hr) (pv 1) (pe_calm0 (pv 0) T.cl m_greatest hr))))))), ?_⟩
    rcases hx with ⟨n, rfl, rfl⟩ | ⟨hx, rfl⟩
    · refine ⟨_, rfl, _, true, rfl, .int n, _, rfl, iteF ?_⟩
      refine ⟨_, rfl, p, C, dx, _, _, rfl, ho, T.cl, T.nW, fl_w, rfl, _, rfl, ?_⟩
      cases w with
      | none => exact iteT q
      | some y =>
        refine iteF ⟨_, rfl, p, dx, _, rfl, ho, fl_no (by decide +kernel), p, some y, pt, m, st, rfl, hf, _, rfl, _, _, rfl, rfl, _, rfl, ?_⟩
        by_cases c : lst y ≤ n
        · rw [decide_eq_true c]
          refine iteT ⟨_, rfl, p, dx, _, rfl, ho, fl_no (by decide +kernel), p, some y, pt, m, st, rfl, hf, _, _, rfl, rfl, ?_⟩
          have q' : Q (.bl (decide (lst y ≤ n) && decide (n ≤ grt y))) H := q
          rw [decide_eq_true c, Bool.true_and] at q'
          exact q'
        · rw [decide_eq_false c]
          refine iteF ?_
          have q' : Q (.bl (decide (lst y ≤ n) && decide (n ≤ grt y))) H := q
          rw [decide_eq_false c, Bool.false_and] at q'
          exact q'
    · exact ⟨_, rfl, _, false, rfl, hx, _, rfl, iteT q⟩
theorem sc_Form_step : FnScope ["self"] ["self"] (defScope s_Form_step) := ⟨rfl, rfl, rfl, by decide +kernel, rfl, by decide +kernel, by decide +kernel⟩
theorem ok_Form_step {f : Addr} {fd : FuncData} {C : Addr} (T : FTxt K mg C) (F : Fun K "step" "Form.step" s_Form_step f fd) (c_two_to : Cal P w K mg base 2 "two_to" ["many"] spTwoTo) : FnOk P w K mg base CX0 3 f fd ["self"] (spStep C) := by
  refine F.ok sc_Form_step (fun vs H Q E h => ?_) (fun cdv A outer s H vs Q E hr h => ?_)
  · obtain ⟨p, w, pt, m, st, rfl, _⟩ := h
    rfl
  · obtain ⟨p, w, pt, m, st, rfl, ⟨⟨dx, ho⟩, hw, h0, h1⟩, q⟩ := h
    refine ⟨_, (pss_one (ps_ret (pe_cal c_two_to hr (pa_cons (pe_un un_neg (pe_fld (pv 0) rfl)) pa_nil)))), ?_⟩
    exact ⟨_, rfl, p, C, dx, _, _, rfl, ho, T.cl, T.nP, fl_p, _, rfl, -pt, rfl, by omega, by omega, q⟩
theorem sc_Form_word_for : FnScope ["self", "number"] ["self", "number"] (defScope s_Form_word_for) := ⟨rfl, rfl, rfl, by decide +kernel, rfl, by decide +kernel, by decide +kernel⟩
theorem ok_Form_word_for {f : Addr} {fd : FuncData} {C : Addr} (T : FTxt K mg C) (F : Fun K "word_for" "Form.word_for" s_Form_word_for f fd) (m_has : CalM P w K mg base 2 C "has" ["self", "thing"] (spHas K C)) (m_least : CalM P w K mg base 1 C "least" ["self"] (spLeast C)) (m_greatest : CalM P w K mg base 1 C "greatest" ["self"] (spGreatest C)) : FnOk P w K mg base CX0 3 f fd ["self", "number"] (spWord C) := by
  refine F.ok sc_Form_word_for (fun vs H Q E h => ?_) (fun cdv A outer s H vs Q E hr h => ?_)
  · obtain ⟨p, w, pt, m, st, n, rfl, _⟩ := h
    rfl
  · obtain ⟨p, w, pt, m, st, n, rfl, hf, q⟩ := h
    obtain ⟨⟨dx, ho⟩, hw, _, _⟩ := id hf
    refine ⟨_, (pss_cons (ps_if (pt_val (pe_calm (pv 0) T.cl m_has hr (pa_cons (pv 1) pa_nil))) (pss_one (ps_ret (pv 1))) pss_nil)
      (pss_cons (ps_if (pt_cmpR op_eq (pe_fld (pv 0) rfl) pe_str (nomark _)) (pss_one (ps_ret (pe_ifExp (pt_cmpR op_lt (pv 1) pe_int (nomark _)) (pe_calm0 (pv 0) T.cl m_least hr) (pe_calm0 (pv 0) T.cl m_greatest hr)))) pss_nil)
      (pss_one (ps_ret (pe_op op_add (pe_op op_mod (pe_op op_sub (pv 1) (pe_calm0 (pv 0) T.cl m_least hr)) (pe_op op_shl pe_int (pe_fld (pv 0) rfl))) (pe_calm0 (pv 0) T.cl m_least hr)))))), ?_⟩
    refine ⟨_, rfl, p, dx, _, rfl, ho, fl_no (by decide +kernel), _, rfl, p, w, pt, m, st, .int n, _, rfl, hf, .inl ⟨n, rfl, rfl⟩, _, rfl, ?_⟩
    cases w with
    | none => exact iteT ⟨_, rfl, q⟩
    | some y =>
      obtain ⟨y0, y1⟩ := hw y rfl
      replace q : Q (.int (if inR (some y) n = true then n else if st = true then (if n < 0 then lst y else grt y) else (n - lst y) % two y + lst y)) H := q
      cases hi : inR (some y) n with
      | true =>
        rw [hi] at q
        exact iteT ⟨_, rfl, q⟩
      | false =>
        rw [hi] at q
        refine iteF ?_
        cases st with
        | true =>
          refine ⟨_, rfl, p, C, dx, _, _, rfl, ho, T.cl, T.nE, fl_e, rfl, _, rfl, ?_⟩
          rw [decide_eq_true (show V.str (endS true) = V.str "stop" from rfl)]
          refine iteT ⟨_, rfl, _, _, rfl, rfl, _, rfl, ite2 (fun c => ?_) (fun c => ?_)⟩
          · have hc : n < 0 := toB c
            refine ⟨_, rfl, p, dx, _, rfl, ho, fl_no (by decide +kernel), p, some y, pt, m, true, rfl, hf, ?_⟩
            simp only [if_pos hc, if_neg Bool.false_ne_true, if_pos] at q
            exact q
          · have hc : ¬ n < 0 := toNB c
            refine ⟨_, rfl, p, dx, _, rfl, ho, fl_no (by decide +kernel), p, some y, pt, m, true, rfl, hf, ?_⟩
            simp only [if_neg hc, if_neg Bool.false_ne_true, if_pos] at q
            exact q
        | false =>
          refine ⟨_, rfl, p, C, dx, _, _, rfl, ho, T.cl, T.nE, fl_e, rfl, _, rfl, ?_⟩
          rw [decide_eq_false (show ¬ V.str (endS false) = V.str "stop" by intro z; exact absurd (V.str.inj z) (by decide +kernel))]
          have e2 : (1 : Int) * 2 ^ y.toNat = two y := Int.one_mul _
          refine iteF ⟨_, rfl, _, rfl, p, dx, _, rfl, ho, fl_no (by decide +kernel), p, some y, pt, m, false, rfl, hf, _, _, rfl, rfl, _, rfl, p, C, dx, _, _, rfl, ho, T.cl, T.nW, fl_w, _, _, rfl, rfl, ⟨by omega, by omega, by decide⟩, _, _, rfl, rfl, ?_, _, rfl, p, dx, _, rfl, ho, fl_no (by decide +kernel), p, some y, pt, m, false, rfl, hf, _, _, rfl, rfl, ?_⟩
          · show 0 < (1 : Int) * 2 ^ y.toNat
            rw [e2]
            exact two_pos y
          · rw [e2]
            simp only [if_neg Bool.false_ne_true] at q
            exact q
end
end E1

namespace E1
open PySem PySem.Spec PyProof.Rows L2
/-! ### nets: rows, holds, forms, points -/
/-- a new object, its heap named -/
theorem upd_gen {H G : Hp} {p : Addr} {o : HO} (e : upd H p o = G) (hp : H p = none) : Same H G ∧ G p = some o := by
  subst e
  exact ⟨same_new hp, upd_same⟩
theorem Same.sqL {K : PySem.W.Frag} {H H' : Hp} {a : Addr} {xs : List V} (e : Same H H') (h : SqL K H a xs) : SqL K H' a xs := by
  rcases h with (h | ⟨o, h⟩) | h
  · exact .inl (.inl (e _ _ h))
  · exact .inl (.inr ⟨o, e _ _ h⟩)
  · exact .inr h
theorem iteC {c d : Bool} {A B : Prop} (e : c = d) (h : if d = true then A else B) : if c = true then A else B := by
  rw [e]
  exact h
theorem sl_le {n : Nat} (h : n ≤ 100000) : n ≤ sizeLine := Nat.le_trans h (by decide)
theorem sl_lt {n : Nat} (h : n ≤ 100000) : n < sizeLine := Nat.lt_of_le_of_lt h (by decide)
inductive Row where
  | inn
  | old (k : Nat)
  | times (f : Int) (m a : Nat)
  | plus (a b : Nat)
  | less (a b : Nat)
  | move (m : Int) (a : Nat)
  | keep (f a : Nat)
inductive Kd7 where
  | inn | old | times | plus | less | move | keep
def Row.kd : Row → Kd7
  | .inn => .inn
  | .old _ => .old
  | .times _ _ _ => .times
  | .plus _ _ => .plus
  | .less _ _ => .less
  | .move _ _ => .move
  | .keep _ _ => .keep
def Kd7.s : Kd7 → Str
  | .inn => "in"
  | .old => "old"
  | .times => "times"
  | .plus => "plus"
  | .less => "less"
  | .move => "move"
  | .keep => "keep"
def Kd7.n : Kd7 → Nat
  | .inn => 1
  | .old => 2
  | .times => 4
  | .plus => 3
  | .less => 3
  | .move => 3
  | .keep => 3
def Row.vs : Row → List V
  | .inn => [.str "in"]
  | .old k => [.str "old", .int k]
  | .times f m a => [.str "times", .int f, .int m, .int a]
  | .plus a b => [.str "plus", .int a, .int b]
  | .less a b => [.str "less", .int a, .int b]
  | .move m a => [.str "move", .int m, .int a]
  | .keep f a => [.str "keep", .int f, .int a]
theorem Row.vs0 (r : Row) : r.vs[0]? = some (.str r.kd.s) := by cases r <;> rfl
theorem Row.vs_len (r : Row) : r.vs.length = r.kd.n := by cases r <;> rfl
/-- tuples that lie at the things of a list -/
inductive TsAt (H : Hp) : List V → List (List V) → Prop where
  | nil : TsAt H [] []
  | cons {p : Addr} {xs : List V} {vs : List V} {xss : List (List V)} (e : H p = some (.tup xs)) (r : TsAt H vs xss) : TsAt H (.ref p :: vs) (xs :: xss)
theorem TsAt.mono {H H' : Hp} {vs : List V} {xss : List (List V)} (h : TsAt H vs xss) (k : ∀ p xs, H p = some (.tup xs) → H' p = some (.tup xs)) : TsAt H' vs xss := by
  induction h with
  | nil => exact .nil
  | cons e _ ih => exact .cons (k _ _ e) ih
theorem TsAt.same {H H' : Hp} {vs : List V} {xss : List (List V)} (h : TsAt H vs xss) (s : Same H H') : TsAt H' vs xss := h.mono fun _ _ e => s _ _ e
theorem TsAt.len {H : Hp} {vs : List V} {xss : List (List V)} (h : TsAt H vs xss) : vs.length = xss.length := by
  induction h with
  | nil => rfl
  | cons _ _ ih => rw [List.length_cons, List.length_cons, ih]
theorem TsAt.get {H : Hp} {vs : List V} {xss : List (List V)} (h : TsAt H vs xss) : ∀ {i : Nat} {v : V}, vs[i]? = some v → ∃ p xs, v = .ref p ∧ xss[i]? = some xs ∧ H p = some (.tup xs) := by
  induction h with
  | nil => intro i v z; cases z
  | cons e _ ih =>
    intro i v z
    cases i with
    | zero =>
      cases z
      exact ⟨_, _, rfl, rfl, e⟩
    | succ i => exact ih z
theorem TsAt.at {H : Hp} {vs : List V} {xss : List (List V)} (h : TsAt H vs xss) : ∀ {i : Nat} {xs : List V}, xss[i]? = some xs → ∃ p, vs[i]? = some (.ref p) ∧ H p = some (.tup xs) := by
  induction h with
  | nil => intro i v z; cases z
  | cons e _ ih =>
    intro i v z
    cases i with
    | zero =>
      cases z
      exact ⟨_, rfl, e⟩
    | succ i => exact ih z
theorem TsAt.app {H : Hp} {vs ws : List V} {xss yss : List (List V)} (h : TsAt H vs xss) (g : TsAt H ws yss) : TsAt H (vs ++ ws) (xss ++ yss) := by
  induction h with
  | nil => exact g
  | cons e _ ih => exact .cons e ih
/-- a list of tuples in the heap -/
def TL7 (H : Hp) (a : Addr) (xss : List (List V)) : Prop := ∃ vs, H a = some (.lst vs) ∧ TsAt H vs xss
theorem TL7.same {H H' : Hp} {a : Addr} {xss : List (List V)} (h : TL7 H a xss) (s : Same H H') : TL7 H' a xss := by
  obtain ⟨vs, e, t⟩ := h
  exact ⟨vs, s _ _ e, t.same s⟩
/-- but for another list -/
theorem TsAt.but {H H' : Hp} {a : Addr} {ys : List V} {vs : List V} {xss : List (List V)} (h : TsAt H vs xss) (s : SameBut a H H') (ha : H a = some (.lst ys)) : TsAt H' vs xss := h.mono fun p xs e => s p _ (ne_of e ha (fun z => nomatch z)) e
theorem TL7.but {H H' : Hp} {a b : Addr} {ys : List V} {xss : List (List V)} (h : TL7 H a xss) (s : SameBut b H H') (hb : H b = some (.lst ys)) (n : a ≠ b) : TL7 H' a xss := by
  obtain ⟨vs, e, t⟩ := h
  exact ⟨vs, s _ _ n e, t.but s hb⟩
structure FormP where
  w : Option Int
  pt : Int
  m : Mn
  st : Bool
def FormP.vs (f : FormP) : List V := [wV f.w, .int f.pt, .str f.m.str, .str (endS f.st)]
structure FormP.Ok (f : FormP) : Prop where
  wo : WOk f.w
  p0 : -64 ≤ f.pt
  p1 : f.pt ≤ 64
abbrev FAt (C : Addr) (H : Hp) (p : Addr) (f : FormP) : Prop := FormAt C H p f.w f.pt f.m f.st
/-- forms that are the things of a list -/
inductive FsAt (C : Addr) (H : Hp) : List V → List FormP → Prop where
  | nil : FsAt C H [] []
  | cons {p : Addr} {f : FormP} {vs : List V} {fs : List FormP} (e : FAt C H p f) (r : FsAt C H vs fs) : FsAt C H (.ref p :: vs) (f :: fs)
theorem FsAt.same {C : Addr} {H H' : Hp} {vs : List V} {fs : List FormP} (h : FsAt C H vs fs) (s : Same H H') : FsAt C H' vs fs := by
  induction h with
  | nil => exact .nil
  | cons e _ ih => exact .cons (FormAt.same e s) ih
theorem FsAt.len {C : Addr} {H : Hp} {vs : List V} {fs : List FormP} (h : FsAt C H vs fs) : vs.length = fs.length := by
  induction h with
  | nil => rfl
  | cons _ _ ih => rw [List.length_cons, List.length_cons, ih]
theorem FsAt.get {C : Addr} {H : Hp} {vs : List V} {fs : List FormP} (h : FsAt C H vs fs) : ∀ {i : Nat} {v : V}, vs[i]? = some v → ∃ p f, v = .ref p ∧ fs[i]? = some f ∧ FAt C H p f := by
  induction h with
  | nil => intro i v z; cases z
  | cons e _ ih =>
    intro i v z
    cases i with
    | zero =>
      cases z
      exact ⟨_, _, rfl, rfl, e⟩
    | succ i => exact ih z
theorem FsAt.at {C : Addr} {H : Hp} {vs : List V} {fs : List FormP} (h : FsAt C H vs fs) : ∀ {i : Nat} {f : FormP}, fs[i]? = some f → ∃ p, vs[i]? = some (.ref p) ∧ FAt C H p f := by
  induction h with
  | nil => intro i v z; cases z
  | cons e _ ih =>
    intro i v z
    cases i with
    | zero =>
      cases z
      exact ⟨_, rfl, e⟩
    | succ i => exact ih z
theorem FsAt.app {C : Addr} {H : Hp} {vs ws : List V} {fs gs : List FormP} (h : FsAt C H vs fs) (g : FsAt C H ws gs) : FsAt C H (vs ++ ws) (fs ++ gs) := by
  induction h with
  | nil => exact g
  | cons e _ ih => exact .cons e ih
structure Hold where
  k : Nat
  s : Int
  l : Nat
def Hold.vs (h : Hold) : List V := [.int h.k, .int h.s, .int h.l]
structure NetP where
  fs : List FormP
  en : Nat
  rows : List Row
  holds : List Hold
  out : Nat
def fpt (fs : List FormP) (k : Nat) : Int := ((fs.map (·.pt)).getD k 0)
def hpts (n : NetP) : List Int := n.holds.map fun h => fpt n.fs h.k
/-- a row's point, from the points ahead -/
def rowPt (en : Int) (hp fp pts : List Int) : Row → Int
  | .inn => en
  | .old k => hp.getD k 0
  | .times _ m a => pts.getD a 0 + m
  | .plus a b => let x := pts.getD a 0; let y := pts.getD b 0; if y > x then y else x
  | .less a b => let x := pts.getD a 0; let y := pts.getD b 0; if y > x then y else x
  | .move m a => pts.getD a 0 - m
  | .keep f _ => fp.getD f 0
def ptsOf (en : Int) (hp fp : List Int) (rows : List Row) : List Int := rows.foldl (fun pts r => pts ++ [rowPt en hp fp pts r]) []
def NetP.pts (n : NetP) : List Int := ptsOf (fpt n.fs n.en) (hpts n) (n.fs.map (·.pt)) n.rows
theorem ptsOf_snoc (en : Int) (hp fp : List Int) (rows : List Row) (r : Row) : ptsOf en hp fp (rows ++ [r]) = ptsOf en hp fp rows ++ [rowPt en hp fp (ptsOf en hp fp rows) r] := by
  unfold ptsOf
  rw [List.foldl_append]
  rfl
theorem ptsOf_len (en : Int) (hp fp : List Int) (rows : List Row) : (ptsOf en hp fp rows).length = rows.length := by
  have key : ∀ (rows : List Row) (acc : List Int), (rows.foldl (fun pts r => pts ++ [rowPt en hp fp pts r]) acc).length = acc.length + rows.length := by
    intro rows
    induction rows with
    | nil => intro acc; rfl
    | cons r rs ih =>
      intro acc
      rw [List.foldl_cons, ih]
      simp only [List.length_append, List.length_cons, List.length_nil]
      omega
  have := key rows []
  rw [List.length_nil] at this
  unfold ptsOf
  omega
theorem ptsOf_take (en : Int) (hp fp : List Int) (rows : List Row) (i : Nat) : (ptsOf en hp fp rows).take i = ptsOf en hp fp (rows.take i) := by
  have key : ∀ (rs : List Row) (acc : List Int) (i : Nat), ((rs.foldl (fun pts r => pts ++ [rowPt en hp fp pts r]) acc)).take (acc.length + i) = (rs.take i).foldl (fun pts r => pts ++ [rowPt en hp fp pts r]) acc := by
    intro rs
    induction rs with
    | nil =>
      intro acc i
      rw [List.take_nil]
      exact List.take_of_length_le (by show acc.length ≤ _; omega)
    | cons r rs ih =>
      intro acc i
      cases i with
      | zero =>
        rw [List.take_zero, Nat.add_zero]
        have h := ih (acc ++ [rowPt en hp fp acc r]) 0
        rw [Nat.add_zero, List.take_zero] at h
        rw [List.foldl_cons]
        have h2 := congrArg (List.take acc.length) h
        rw [List.take_take, List.length_append] at h2
        rw [show min acc.length (acc.length + [rowPt en hp fp acc r].length) = acc.length by omega] at h2
        rw [h2]
        show (acc ++ [rowPt en hp fp acc r]).take acc.length = acc
        rw [List.take_append_of_le_length (Nat.le_refl _), List.take_length]
      | succ i =>
        rw [List.foldl_cons, List.take_succ_cons, List.foldl_cons]
        have h := ih (acc ++ [rowPt en hp fp acc r]) i
        rw [List.length_append, List.length_singleton] at h
        rw [← h]
        congr 1
        omega
  have := key rows [] i
  rw [List.length_nil, Nat.zero_add] at this
  exact this
/-- a row that may stand at place i -/
def RowOk (hc fc i : Nat) : Row → Prop
  | .inn => True
  | .old k => k < hc
  | .times f m a => f.natAbs < 9223372036854775808 ∧ m ≤ 64 ∧ a < i
  | .plus a b => a < i ∧ b < i
  | .less a b => a < i ∧ b < i
  | .move m a => m.natAbs ≤ 64 ∧ a < i
  | .keep f a => f < fc ∧ a < i
structure NetOk (n : NetP) : Prop where
  f1 : 1 ≤ n.fs.length
  f2 : n.fs.length ≤ 12
  fo : ∀ f ∈ n.fs, f.Ok
  en : n.en < n.fs.length
  h2 : n.holds.length ≤ 6
  ho : ∀ h ∈ n.holds, h.k < n.fs.length ∧ (∀ f, n.fs[h.k]? = some f → inR f.w h.s = true) ∧ ∃ a, n.rows[h.l]? = some (.keep h.k a)
  r1 : 1 ≤ n.rows.length
  r2 : n.rows.length ≤ 60
  ro : ∀ i r, n.rows[i]? = some r → RowOk n.holds.length n.fs.length i r
  po : ∀ p ∈ n.pts, -200 ≤ p ∧ p ≤ 200
  out : n.out < n.rows.length
/-- a net in the heap -/
def nflds (fl : Addr) (en : Int) (rl hl : Addr) (out : Int) (pl : Addr) : List (Str × V) := [("form_list", .ref fl), ("enters_at", .int en), ("row_list", .ref rl), ("hold_list", .ref hl), ("out_at", .int out), ("point_list", .ref pl)]
structure NetB (C CN : Addr) (H : Hp) (p : Addr) (n : NetP) (dx fl rl hl pl : Addr) (fv rv hv : List V) : Prop where
  ob : H p = some (.ins CN dx (nflds fl n.en rl hl n.out pl))
  fa : H fl = some (.lst fv)
  fs : FsAt C H fv n.fs
  ra : H rl = some (.lst rv)
  rs : TsAt H rv (n.rows.map Row.vs)
  ha : H hl = some (.lst hv)
  hs : TsAt H hv (n.holds.map Hold.vs)
  pa : H pl = some (.lst (n.pts.map V.int))
def NetAt (C CN : Addr) (H : Hp) (p : Addr) (n : NetP) : Prop := NetOk n ∧ ∃ dx fl rl hl pl fv rv hv, NetB C CN H p n dx fl rl hl pl fv rv hv
theorem NetB.same {C CN : Addr} {H H' : Hp} {p : Addr} {n : NetP} {dx fl rl hl pl : Addr} {fv rv hv : List V} (h : NetB C CN H p n dx fl rl hl pl fv rv hv) (s : Same H H') : NetB C CN H' p n dx fl rl hl pl fv rv hv :=
  ⟨s _ _ h.ob, s _ _ h.fa, h.fs.same s, s _ _ h.ra, h.rs.same s, s _ _ h.ha, h.hs.same s, s _ _ h.pa⟩
theorem NetAt.same {C CN : Addr} {H H' : Hp} {p : Addr} {n : NetP} (h : NetAt C CN H p n) (s : Same H H') : NetAt C CN H' p n := by
  obtain ⟨o, dx, fl, rl, hl, pl, fv, rv, hv, b⟩ := h
  exact ⟨o, dx, fl, rl, hl, pl, fv, rv, hv, b.same s⟩
theorem get_map {α : Type} {l : List α} {i : Nat} {g : α → V} {x : α} (h : l[i]? = some x) : (l.map g)[i]? = some (g x) := by rw [List.getElem?_map, h]; rfl
theorem getD_of {l : List Int} {i : Nat} (h : i < l.length) : l[i]? = some (l.getD i 0) := by
  rw [List.getD_eq_getElem?_getD, List.getElem?_eq_getElem h]
  rfl
theorem ints_at {l : List Int} {i : Nat} (h : i < l.length) : atI (l.map V.int) (i : Int) = some (.int (l.getD i 0)) := atI_nat (get_map (getD_of h))
end E1

namespace E1
open PySem PySem.Spec PyProof.Rows L2

/-- how many steps of the form a number at a point is, rounded -/
def stepsAt (pt : Int) (m : Mn) (n p : Int) : Int := if p ≤ pt then n * 2 ^ (pt - p).toNat else m.f n (2 ^ (p - pt).toNat)
def spEnded (C : Addr) : Sp := fun vs H Q _ => ∃ (p : Addr) (w : Option Int) (pt : Int) (m : Mn) (st : Bool) (n : Int), vs = [.ref p, .int n] ∧ FormAt C H p w pt m st ∧ ∀ r, H r = none → Q (.ref r) (upd H r (.tup [.int (wordF w st n), .int (n - wordF w st n)]))
def spKeptAt (C : Addr) : Sp := fun vs H Q _ => ∃ (p : Addr) (w : Option Int) (pt : Int) (m : Mn) (st : Bool) (n x : Int), vs = [.ref p, .int n, .int x] ∧ FormAt C H p w pt m st ∧ -200 ≤ x ∧ x ≤ 200 ∧ n.natAbs < 2 ^ 900000 ∧
  ∀ (r : Addr) (H' : Hp), H r = none → Same H H' → H' r = some (.tup [.int (wordF w st (stepsAt pt m n x)), .int (stepsAt pt m n x - wordF w st (stepsAt pt m n x))]) → Q (.ref r) H'
theorem ibits_lt {i : Int} {n : Nat} (h : i.natAbs < 2 ^ n) : Builtin.Int.intBits i ≤ n := by
  exact PySem.intBits_le_iff.mpr h
theorem shl_ok {i : Int} {n k : Nat} (h : i.natAbs < 2 ^ n) (l : n + k ≤ 1000000) : CShl i (k : Int) := by
  refine ⟨by omega, ?_⟩
  have := ibits_lt h
  omega
theorem one_shl (k : Nat) : (1 : Int) * 2 ^ k = 2 ^ k := Int.one_mul _
theorem two_pow_lt {k n : Nat} (h : k < n) : ((2 : Int) ^ k).natAbs < 2 ^ n := by
  rw [Int.natAbs_pow]
  exact Nat.pow_lt_pow_right (by decide) h
theorem two_pow_pos (k : Nat) : (0 : Int) < 2 ^ k := Int.pow_pos (by decide)
section
variable {P : Program} {w : World} {K : PySem.W.Frag} {mg : Str → Option Value} {base : Heap}
theorem sc_Form_ended : FnScope ["self", "number", "word"] ["self", "number"] (defScope s_Form_ended) := ⟨rfl, rfl, rfl, by decide +kernel, rfl, by decide +kernel, by decide +kernel⟩
theorem ok_Form_ended {f : Addr} {fd : FuncData} {C : Addr} (T : FTxt K mg C) (F : Fun K "ended" "Form.ended" s_Form_ended f fd) (m_word_for : CalM P w K mg base 3 C "word_for" ["self", "number"] (spWord C)) : FnOk P w K mg base CX0 4 f fd ["self", "number"] (spEnded C) := by
  refine F.ok sc_Form_ended (fun vs H Q E h => ?_) (fun cdv A outer s H vs Q E hr h => ?_)
  · obtain ⟨p, w, pt, m, st, n, rfl, _⟩ := h
    rfl
  · obtain ⟨p, w, pt, m, st, n, rfl, hf, q⟩ := h
    obtain ⟨⟨dx, ho⟩, hw, h0, h1⟩ := id hf
    refine ⟨_, (pss_cons (ps_set (i := 2) sc_Form_ended.nd rfl (.inl rfl) (pe_calm (pv 0) T.cl m_word_for hr (pa_cons (pv 1) pa_nil)))
      (pss_one (ps_ret (pe_tup (pa_cons (pv 2) (pa_cons (pe_op op_sub (pv 1) (pv 2)) pa_nil)))))), ?_⟩
    refine ⟨_, rfl, p, dx, _, rfl, ho, fl_no (by decide +kernel), _, rfl, p, w, pt, m, st, n, rfl, hf, ?_⟩
    exact ⟨_, rfl, _, rfl, _, rfl, _, _, rfl, rfl, (by show 2 ≤ sizeLine; decide), fun r hr => q r hr⟩
theorem sc_Form_kept_at : FnScope ["self", "number", "point"] ["self", "number", "point"] (defScope s_Form_kept_at) := ⟨rfl, rfl, rfl, by decide +kernel, rfl, by decide +kernel, by decide +kernel⟩
theorem ok_Form_kept_at {f : Addr} {fd : FuncData} {C : Addr} (T : FTxt K mg C) (F : Fun K "kept_at" "Form.kept_at" s_Form_kept_at f fd) (c_rounded : Cal P w K mg base 3 "rounded" ["value", "manner"] (spRounded K)) (m_ended : CalM P w K mg base 4 C "ended" ["self", "number"] (spEnded C)) : FnOk P w K mg base CX0 5 f fd ["self", "number", "point"] (spKeptAt C) := by
  refine F.ok sc_Form_kept_at (fun vs H Q E h => ?_) (fun cdv A outer s H vs Q E hr h => ?_)
  · obtain ⟨p, w, pt, m, st, n, x, rfl, _⟩ := h
    rfl
  · obtain ⟨p, w, pt, m, st, n, x, rfl, hf, x0, x1, hn, q⟩ := h
    obtain ⟨⟨dx, ho⟩, hw, h0, h1⟩ := id hf
    refine ⟨_, (pss_cons (ps_if (pt_cmpR op_le (pv 2) (pe_fld (pv 0) rfl) (nomark _)) (pss_one (ps_ret (pe_calm (pv 0) T.cl m_ended hr (pa_cons (pe_op op_shlW (pv 1) (pe_op op_sub (pe_fld (pv 0) rfl) (pv 2))) pa_nil)))) pss_nil)
      (pss_one (ps_ret (pe_calm (pv 0) T.cl m_ended hr (pa_cons (pe_cal c_rounded hr (pa_cons (pe_tup (pa_cons (pv 1) (pa_cons (pe_op op_shlW pe_int (pe_op op_sub (pv 2) (pe_fld (pv 0) rfl))) pa_nil))) (pa_cons (pe_fld (pv 0) rfl) pa_nil))) pa_nil))))), ?_⟩
    refine ⟨_, rfl, _, rfl, p, C, dx, _, _, rfl, ho, T.cl, T.nP, fl_p, _, _, rfl, rfl, _, rfl, ite2 (fun c => ?_) (fun c => ?_)⟩
    · have hc : x ≤ pt := toB c
      have e : pt - x = (((pt - x).toNat : Nat) : Int) := by omega
      refine ⟨_, rfl, p, dx, _, rfl, ho, fl_no (by decide +kernel), _, rfl, _, rfl, p, C, dx, _, _, rfl, ho, T.cl, T.nP, fl_p, _, rfl, _, _, rfl, rfl, _, _, rfl, rfl, ?_, p, w, pt, m, st, _, rfl, hf, fun r hr => ?_⟩
      · rw [e]
        exact shl_ok hn (by omega)
      · have es : stepsAt pt m n x = n * 2 ^ (pt - x).toNat := if_pos hc
        have := q r _ hr (same_new (o := .tup [.int (wordF w st (n * 2 ^ (pt - x).toNat)), .int (n * 2 ^ (pt - x).toNat - wordF w st (n * 2 ^ (pt - x).toNat))]) hr)
        rw [es] at this
        exact this upd_same
    · have hc : ¬ x ≤ pt := toNB c
      have e : x - pt = (((x - pt).toNat : Nat) : Int) := by omega
      refine ⟨_, rfl, p, dx, _, rfl, ho, fl_no (by decide +kernel), _, rfl, _, rfl, _, rfl, p, C, dx, _, _, rfl, ho, T.cl, T.nP, fl_p, _, _, rfl, rfl, _, _, rfl, rfl, ?_, (by show 2 ≤ sizeLine; decide), fun t ht => ?_⟩
      · rw [e]
        exact shl_ok (n := 1) (by decide) (by omega)
      generalize hG : upd _ t _ = G
      obtain ⟨s, h_t⟩ := upd_gen hG ht
      have ho2 := s _ _ ho
      refine ⟨_, rfl, p, C, dx, _, _, rfl, ho2, T.cl, T.nM, fl_m, t, m, n, _, rfl, SqT.of h_t, ?_, up hn (by omega), ?_, p, w, pt, m, st, _, rfl, hf.same s, fun r hr => ?_⟩
      · rw [Int.one_mul]
        exact two_pow_pos _
      · rw [Int.one_mul]
        exact up (two_pow_lt (n := 300) (by omega)) (by decide)
      · have es : stepsAt pt m n x = m.f n (2 ^ (x - pt).toNat) := if_neg hc
        rw [Int.one_mul]
        have := q r _ (s.free hr) (s.trans (same_new (o := .tup [.int (wordF w st (m.f n (2 ^ (x - pt).toNat))), .int (m.f n (2 ^ (x - pt).toNat) - wordF w st (m.f n (2 ^ (x - pt).toNat)))]) hr))
        rw [es] at this
        exact this upd_same
end
end E1

namespace E1
open PySem PySem.Spec PyProof.Rows L2

def GivenAt (H : Hp) (gv : Addr) (en : Int) (hp fp : List Int) : Prop := ∃ ha fa, H gv = some (.tup [.int en, .ref ha, .ref fa]) ∧ H ha = some (.lst (hp.map V.int)) ∧ H fa = some (.lst (fp.map V.int))
def spPlace : Sp := fun vs H Q _ => ∃ k n : Int, vs = [.int k, .int n] ∧ 0 ≤ k ∧ k < n ∧ Q (.bl true) H
def spFactor : Sp := fun vs H Q _ => ∃ f : Int, vs = [.int f] ∧ f.natAbs < 9223372036854775808 ∧ Q (.bl true) H
def spRule (kd : Kd7) : Sp := fun vs H Q _ => ∃ (ra pa gv : Addr) (r : Row) (en : Int) (hp fp pts : List Int), vs = [.ref ra, .ref pa, .ref gv] ∧ H ra = some (.tup r.vs) ∧ r.kd = kd ∧ H pa = some (.lst (pts.map V.int)) ∧ GivenAt H gv en hp fp ∧ RowOk hp.length fp.length pts.length r ∧ Q (.int (rowPt en hp fp pts r)) H
def spRowPt : Sp := fun vs H Q _ => ∃ (ra pa gv : Addr) (r : Row) (en : Int) (hp fp pts : List Int), vs = [.ref ra, .ref pa, .ref gv] ∧ H ra = some (.tup r.vs) ∧ H pa = some (.lst (pts.map V.int)) ∧ GivenAt H gv en hp fp ∧ RowOk hp.length fp.length pts.length r ∧ -200 ≤ rowPt en hp fp pts r ∧ rowPt en hp fp pts r ≤ 200 ∧ Q (.int (rowPt en hp fp pts r)) H
def spWritten : Sp := fun vs H Q _ => ∃ (ra : Addr) (r : Row), vs = [.ref ra] ∧ H ra = some (.tup r.vs) ∧ Q (.bl true) H
structure Lens (w : World) (K : PySem.W.Frag) (mg : Str → Option Value) (dL : Addr) (es : Array DictEntry) (n : Nat) : Prop where
  gm : mg "ROW_LENGTHS" = some (.ref dL)
  D : KDict K w dL es n
  at_ : ∀ k : Kd7, ∃ t, PySem.W.nsIn K dL k.s = some (some (.int (k.n : Int) t))
structure Ruls (P : Program) (w : World) (K : PySem.W.Frag) (mg : Str → Option Value) (base : Heap) (dP : Addr) (es : Array DictEntry) (n : Nat) : Prop where
  gm : mg "POINT_RULES" = some (.ref dP)
  D : KDict K w dP es n
  at_ : ∀ k : Kd7, ∃ (f : Addr) (fd : FuncData), PySem.W.nsIn K dP k.s = some (some (.ref f)) ∧ PySem.W.keepIn K (.ref f) = true ∧ Binds K fd ["row", "points", "given"] [] ∧ FnOk P w K mg base CX0 3 f fd ["row", "points", "given"] (spRule k)
structure NCst (mg : Str → Option Value) : Prop where
  fe : ∃ t, mg "FACTOR_END" = some (.int 9223372036854775808 t)
  gs : ∃ t, mg "GREATEST_SHIFT" = some (.int 64 t)
  gr : ∃ t, mg "GREATEST_ROW_POINT" = some (.int 200 t)
  mf : ∃ t, mg "MOST_FORMS" = some (.int 12 t)
  mr : ∃ t, mg "MOST_ROWS" = some (.int 60 t)
  mh : ∃ t, mg "MOST_HOLDS" = some (.int 6 t)
theorem qt {p : Prop} [Decidable p] {Q : VK} {H : Hp} (h : p) (q : Q (.bl true) H) : Q (.bl (decide p)) H := (congrArg (fun c => Q (.bl c) H) (decide_eq_true h)).mpr q
theorem lenI {l : List Int} : ((l.map V.int).length : Int) = (l.length : Int) := by rw [List.length_map]
section
variable {P : Program} {w : World} {K : PySem.W.Frag} {mg : Str → Option Value} {base : Heap}
theorem sc_is_place : FnScope ["thing", "many"] ["thing", "many"] (defScope s_is_place) := ⟨rfl, rfl, rfl, by decide +kernel, rfl, by decide +kernel, by decide +kernel⟩
theorem ok_is_place {f : Addr} {fd : FuncData} (F : Fun K "is_place" "is_place" s_is_place f fd) (c_is_whole : Cal P w K mg base 1 "is_whole" ["thing"] (spWhole K)) : FnOk P w K mg base CX0 2 f fd ["thing", "many"] spPlace := by
  refine F.ok sc_is_place (fun vs H Q E h => ?_) (fun cdv A outer s H vs Q E hr h => ?_)
  · obtain ⟨k, n, rfl, _⟩ := h
    rfl
  · obtain ⟨k, n, rfl, h0, h1, q⟩ := h
    refine ⟨_, (pss_one (ps_ret (pe_and (pe_cal c_is_whole hr (pa_cons (pv 0) pa_nil)) (pe_one (pe_chain op_le op_lt pe_int (pv 0) (pv 1)))))), ?_⟩
    refine ⟨_, rfl, _, true, rfl, .inl ⟨k, rfl, rfl⟩, _, rfl, iteT ⟨_, rfl, _, _, rfl, rfl, _, rfl, ?_⟩⟩
    rw [decide_eq_true (show (0 : Int) ≤ k from h0)]
    exact iteT ⟨_, rfl, _, _, rfl, rfl, qt h1 q⟩
theorem sc_is_factor : FnScope ["thing"] ["thing"] (defScope s_is_factor) := ⟨rfl, rfl, rfl, by decide +kernel, rfl, by decide +kernel, by decide +kernel⟩
theorem ok_is_factor {f : Addr} {fd : FuncData} (NC : NCst mg) (F : Fun K "is_factor" "is_factor" s_is_factor f fd) (z : Zs mg) (c_is_whole : Cal P w K mg base 1 "is_whole" ["thing"] (spWhole K)) : FnOk P w K mg base CX0 2 f fd ["thing"] spFactor := by
  refine F.ok sc_is_factor (fun vs H Q E h => ?_) (fun cdv A outer s H vs Q E hr h => ?_)
  · obtain ⟨k, rfl, _⟩ := h
    rfl
  · obtain ⟨k, rfl, h1, q⟩ := h
    refine ⟨_, (pss_one (ps_ret (pe_and (pe_cal c_is_whole hr (pa_cons (pv 0) pa_nil)) (pe_one (pe_cmpR op_lt (pe_callB call_abs (by rfl) z.abs (by decide +kernel) (pa_cons (pv 0) pa_nil)) (pe_glob (v := .int 9223372036854775808) (by rfl) NC.fe.choose_spec ⟨_, rfl⟩) (nomark _)))))), ?_⟩
    refine ⟨_, rfl, _, true, rfl, .inl ⟨k, rfl, rfl⟩, _, rfl, iteT ⟨_, rfl, _, rfl, _, _, rfl, rfl, qt (show (if k < 0 then -k else k) < 9223372036854775808 by split <;> omega) q⟩⟩
theorem sc_in_point : FnScope ["row", "points", "given"] ["row", "points", "given"] (defScope s_in_point) := ⟨rfl, rfl, rfl, by decide +kernel, rfl, by decide +kernel, by decide +kernel⟩
theorem ok_in_point {f : Addr} {fd : FuncData} (F : Fun K "in_point" "in_point" s_in_point f fd) : FnOk P w K mg base CX0 3 f fd ["row", "points", "given"] (spRule .inn) := by
  refine F.ok sc_in_point (fun vs H Q E h => ?_) (fun cdv A outer s H vs Q E hr h => ?_)
  · obtain ⟨ra, pa, gv, r, en, hp, fp, pts, rfl, _⟩ := h
    rfl
  · obtain ⟨ra, pa, gv, r, en, hp, fp, pts, rfl, hra, hk, hpa, ⟨ha, fa, hgv, hha, hfa⟩, hok, q⟩ := h
    refine ⟨_, (pss_one (ps_ret (pe_ix ix_tup (pv 2) pe_int (fun _ _ => rfl)))), ?_⟩
    match r, hk, hok, hra, q with
    | .inn, _, _, hra, q => exact ⟨_, rfl, gv, _, 0, .int en, rfl, rfl, SqT.of hgv, a0, q⟩
theorem sc_old_point : FnScope ["row", "points", "given", "hold_points"] ["row", "points", "given"] (defScope s_old_point) := ⟨rfl, rfl, rfl, by decide +kernel, rfl, by decide +kernel, by decide +kernel⟩
theorem ok_old_point {f : Addr} {fd : FuncData} (z : Zs mg) (c_is_place : Cal P w K mg base 2 "is_place" ["thing", "many"] spPlace) (F : Fun K "old_point" "old_point" s_old_point f fd) : FnOk P w K mg base CX0 3 f fd ["row", "points", "given"] (spRule .old) := by
  refine F.ok sc_old_point (fun vs H Q E h => ?_) (fun cdv A outer s H vs Q E hr h => ?_)
  · obtain ⟨ra, pa, gv, r, en, hp, fp, pts, rfl, _⟩ := h
    rfl
  · obtain ⟨ra, pa, gv, r, en, hp, fp, pts, rfl, hra, hk, hpa, ⟨ha, fa, hgv, hha, hfa⟩, hok, q⟩ := h
    refine ⟨_, (pss_cons (ps_set (i := 3) sc_old_point.nd rfl (.inl rfl) (pe_ix ix_tup (pv 2) pe_int (fun _ _ => rfl)))
      (pss_one (ps_ret (pe_ifExp (pt_val (pe_cal c_is_place hr (pa_cons (pe_ix ix_tup (pv 0) pe_int (fun _ _ => rfl)) (pa_cons (pe_callB call_len_seq (by rfl) z.len PySem.boot_len (pa_cons (pv 3) pa_nil)) pa_nil)))) (pe_ix ix_list (pv 3) (pe_ix ix_tup (pv 0) pe_int (fun _ _ => rfl)) (fun _ _ => rfl)) pe_non)))), ?_⟩
    match r, hk, hok, hra, q with
    | .old k, _, hok, hra, q =>
      have hk : k < hp.length := hok
      refine ⟨_, rfl, gv, _, 1, .ref ha, rfl, rfl, SqT.of hgv, a1, _, rfl, ra, _, 1, .int k, rfl, rfl, SqT.of hra, a1, _, rfl, ha, _, rfl, .inl (SqL.of hha), _, _, rfl, by omega, by rw [lenI]; omega, _, rfl, iteT ?_⟩
      exact ⟨_, rfl, _, rfl, ra, _, 1, .int k, rfl, rfl, SqT.of hra, a1, ha, _, _, _, rfl, rfl, SqL.of hha, ints_at hk, q⟩
theorem sc_times_point : FnScope ["row", "points", "given", "word", "factor", "more", "at"] ["row", "points", "given"] (defScope s_times_point) := ⟨rfl, rfl, rfl, by decide +kernel, rfl, by decide +kernel, by decide +kernel⟩
theorem ok_times_point {f : Addr} {fd : FuncData} (NC : NCst mg) (z : Zs mg) (c_is_factor : Cal P w K mg base 2 "is_factor" ["thing"] spFactor) (c_is_place : Cal P w K mg base 2 "is_place" ["thing", "many"] spPlace) (F : Fun K "times_point" "times_point" s_times_point f fd) : FnOk P w K mg base CX0 3 f fd ["row", "points", "given"] (spRule .times) := by
  refine F.ok sc_times_point (fun vs H Q E h => ?_) (fun cdv A outer s H vs Q E hr h => ?_)
  · obtain ⟨ra, pa, gv, r, en, hp, fp, pts, rfl, _⟩ := h
    rfl
  · obtain ⟨ra, pa, gv, r, en, hp, fp, pts, rfl, hra, hk, hpa, ⟨ha, fa, hgv, hha, hfa⟩, hok, q⟩ := h
    refine ⟨_, (pss_cons (ps_asg (pv 0) (pg_tup (by rfl) (pgs_cons (pg_name (i := 3) sc_times_point.nd rfl (.inl rfl)) (pgs_cons (pg_name (i := 4) sc_times_point.nd rfl (.inl rfl)) (pgs_cons (pg_name (i := 5) sc_times_point.nd rfl (.inl rfl)) (pgs_cons (pg_name (i := 6) sc_times_point.nd rfl (.inl rfl)) pgs_nil))))))
      (pss_cons (ps_if (PW.pt (pw_or (pt_not (pt_val (pe_cal c_is_factor hr (pa_cons (pv 4) pa_nil)))) (pw_or (pt_not (pt_val (pe_cal c_is_place hr (pa_cons (pv 5) (pa_cons (pe_op op_add (pe_glob (v := .int 64) (by rfl) NC.gs.choose_spec ⟨_, rfl⟩) pe_int) pa_nil))))) (pw_or1 (pt_not (pt_val (pe_cal c_is_place hr (pa_cons (pv 6) (pa_cons (pe_callB call_len_seq (by rfl) z.len PySem.boot_len (pa_cons (pv 1) pa_nil)) pa_nil))))))))) (pss_one (ps_ret pe_non)) pss_nil)
      (pss_one (ps_ret (pe_op op_add (pe_ix ix_list (pv 1) (pv 6) (fun _ _ => rfl)) (pv 5)))))), ?_⟩
    match r, hk, hok, hra, q with
    | .times f m a, _, hok, hra, q =>
      obtain ⟨h1, h2, h3⟩ := hok
      refine ⟨_, rfl, ra, _, rfl, SqT.of hra, rfl, _, _, rfl, _, _, rfl, _, _, rfl, _, _, rfl, rfl, _, rfl, f, rfl, h1, _, rfl, iteF ⟨_, rfl, _, _, rfl, rfl, _, _, rfl, by omega, by omega, _, rfl, iteF ⟨_, rfl, _, rfl, pa, _, rfl, .inl (SqL.of hpa), _, _, rfl, by omega, by rw [lenI]; omega, _, rfl, iteF ?_⟩⟩⟩
      exact ⟨_, rfl, _, rfl, pa, _, _, _, rfl, rfl, SqL.of hpa, ints_at h3, _, rfl, _, _, rfl, rfl, q⟩
theorem sc_sum_point : FnScope ["row", "points", "given", "word", "one", "other"] ["row", "points", "given"] (defScope s_sum_point) := ⟨rfl, rfl, rfl, by decide +kernel, rfl, by decide +kernel, by decide +kernel⟩
theorem ok_sum_point_plus {f : Addr} {fd : FuncData} (z : Zs mg) (c_is_place : Cal P w K mg base 2 "is_place" ["thing", "many"] spPlace) (F : Fun K "sum_point" "sum_point" s_sum_point f fd) : FnOk P w K mg base CX0 3 f fd ["row", "points", "given"] (spRule .plus) := by
  refine F.ok sc_sum_point (fun vs H Q E h => ?_) (fun cdv A outer s H vs Q E hr h => ?_)
  · obtain ⟨ra, pa, gv, r, en, hp, fp, pts, rfl, _⟩ := h
    rfl
  · obtain ⟨ra, pa, gv, r, en, hp, fp, pts, rfl, hra, hk, hpa, ⟨ha, fa, hgv, hha, hfa⟩, hok, q⟩ := h
    refine ⟨_, (pss_cons (ps_asg (pv 0) (pg_tup (by rfl) (pgs_cons (pg_name (i := 3) sc_sum_point.nd rfl (.inl rfl)) (pgs_cons (pg_name (i := 4) sc_sum_point.nd rfl (.inl rfl)) (pgs_cons (pg_name (i := 5) sc_sum_point.nd rfl (.inl rfl)) pgs_nil)))))
      (pss_cons (ps_if (PW.pt (pw_or (pt_not (pt_val (pe_cal c_is_place hr (pa_cons (pv 4) (pa_cons (pe_callB call_len_seq (by rfl) z.len PySem.boot_len (pa_cons (pv 1) pa_nil)) pa_nil))))) (pw_or1 (pt_not (pt_val (pe_cal c_is_place hr (pa_cons (pv 5) (pa_cons (pe_callB call_len_seq (by rfl) z.len PySem.boot_len (pa_cons (pv 1) pa_nil)) pa_nil)))))))) (pss_one (ps_ret pe_non)) pss_nil)
      (pss_one (ps_ret (pe_callB (call_max2 rfl) (by rfl) z.max (by decide +kernel) (pa_cons (pe_ix ix_list (pv 1) (pv 4) (fun _ _ => rfl)) (pa_cons (pe_ix ix_list (pv 1) (pv 5) (fun _ _ => rfl)) pa_nil))))))), ?_⟩
    match r, hk, hok, hra, q with
    | .plus a b, _, hok, hra, q =>
      obtain ⟨h1, h2⟩ := hok
      refine ⟨_, rfl, ra, _, rfl, SqT.of hra, rfl, _, _, rfl, _, _, rfl, _, _, rfl, rfl, _, rfl, _, rfl, pa, _, rfl, .inl (SqL.of hpa), _, _, rfl, by omega, by rw [lenI]; omega, _, rfl, iteF ⟨_, rfl, _, rfl, pa, _, rfl, .inl (SqL.of hpa), _, _, rfl, by omega, by rw [lenI]; omega, _, rfl, iteF ?_⟩⟩
      exact ⟨_, rfl, _, rfl, pa, _, _, _, rfl, rfl, SqL.of hpa, ints_at h1, _, rfl, _, rfl, pa, _, _, _, rfl, rfl, SqL.of hpa, ints_at h2, _, _, rfl, q⟩
theorem ok_sum_point_less {f : Addr} {fd : FuncData} (z : Zs mg) (c_is_place : Cal P w K mg base 2 "is_place" ["thing", "many"] spPlace) (F : Fun K "sum_point" "sum_point" s_sum_point f fd) : FnOk P w K mg base CX0 3 f fd ["row", "points", "given"] (spRule .less) := by
  refine F.ok sc_sum_point (fun vs H Q E h => ?_) (fun cdv A outer s H vs Q E hr h => ?_)
  · obtain ⟨ra, pa, gv, r, en, hp, fp, pts, rfl, _⟩ := h
    rfl
  · obtain ⟨ra, pa, gv, r, en, hp, fp, pts, rfl, hra, hk, hpa, ⟨ha, fa, hgv, hha, hfa⟩, hok, q⟩ := h
    refine ⟨_, (pss_cons (ps_asg (pv 0) (pg_tup (by rfl) (pgs_cons (pg_name (i := 3) sc_sum_point.nd rfl (.inl rfl)) (pgs_cons (pg_name (i := 4) sc_sum_point.nd rfl (.inl rfl)) (pgs_cons (pg_name (i := 5) sc_sum_point.nd rfl (.inl rfl)) pgs_nil)))))
      (pss_cons (ps_if (PW.pt (pw_or (pt_not (pt_val (pe_cal c_is_place hr (pa_cons (pv 4) (pa_cons (pe_callB call_len_seq (by rfl) z.len PySem.boot_len (pa_cons (pv 1) pa_nil)) pa_nil))))) (pw_or1 (pt_not (pt_val (pe_cal c_is_place hr (pa_cons (pv 5) (pa_cons (pe_callB call_len_seq (by rfl) z.len PySem.boot_len (pa_cons (pv 1) pa_nil)) pa_nil)))))))) (pss_one (ps_ret pe_non)) pss_nil)
      (pss_one (ps_ret (pe_callB (call_max2 rfl) (by rfl) z.max (by decide +kernel) (pa_cons (pe_ix ix_list (pv 1) (pv 4) (fun _ _ => rfl)) (pa_cons (pe_ix ix_list (pv 1) (pv 5) (fun _ _ => rfl)) pa_nil))))))), ?_⟩
    match r, hk, hok, hra, q with
    | .less a b, _, hok, hra, q =>
      obtain ⟨h1, h2⟩ := hok
      refine ⟨_, rfl, ra, _, rfl, SqT.of hra, rfl, _, _, rfl, _, _, rfl, _, _, rfl, rfl, _, rfl, _, rfl, pa, _, rfl, .inl (SqL.of hpa), _, _, rfl, by omega, by rw [lenI]; omega, _, rfl, iteF ⟨_, rfl, _, rfl, pa, _, rfl, .inl (SqL.of hpa), _, _, rfl, by omega, by rw [lenI]; omega, _, rfl, iteF ?_⟩⟩
      exact ⟨_, rfl, _, rfl, pa, _, _, _, rfl, rfl, SqL.of hpa, ints_at h1, _, rfl, _, rfl, pa, _, _, _, rfl, rfl, SqL.of hpa, ints_at h2, _, _, rfl, q⟩
theorem sc_move_point : FnScope ["row", "points", "given", "word", "many", "at"] ["row", "points", "given"] (defScope s_move_point) := ⟨rfl, rfl, rfl, by decide +kernel, rfl, by decide +kernel, by decide +kernel⟩
theorem ok_move_point {f : Addr} {fd : FuncData} (NC : NCst mg) (z : Zs mg) (c_is_whole : Cal P w K mg base 1 "is_whole" ["thing"] (spWhole K)) (c_is_place : Cal P w K mg base 2 "is_place" ["thing", "many"] spPlace) (F : Fun K "move_point" "move_point" s_move_point f fd) : FnOk P w K mg base CX0 3 f fd ["row", "points", "given"] (spRule .move) := by
  refine F.ok sc_move_point (fun vs H Q E h => ?_) (fun cdv A outer s H vs Q E hr h => ?_)
  · obtain ⟨ra, pa, gv, r, en, hp, fp, pts, rfl, _⟩ := h
    rfl
  · obtain ⟨ra, pa, gv, r, en, hp, fp, pts, rfl, hra, hk, hpa, ⟨ha, fa, hgv, hha, hfa⟩, hok, q⟩ := h
    refine ⟨_, (pss_cons (ps_asg (pv 0) (pg_tup (by rfl) (pgs_cons (pg_name (i := 3) sc_move_point.nd rfl (.inl rfl)) (pgs_cons (pg_name (i := 4) sc_move_point.nd rfl (.inl rfl)) (pgs_cons (pg_name (i := 5) sc_move_point.nd rfl (.inl rfl)) pgs_nil)))))
      (pss_cons (ps_if (PW.pt (pw_or (pt_not (pt_val (pe_cal c_is_whole hr (pa_cons (pv 4) pa_nil)))) (pw_or (pt_cmpR op_gt (pe_callB call_abs (by rfl) z.abs (by decide +kernel) (pa_cons (pv 4) pa_nil)) (pe_glob (v := .int 64) (by rfl) NC.gs.choose_spec ⟨_, rfl⟩) (nomark _)) (pw_or1 (pt_not (pt_val (pe_cal c_is_place hr (pa_cons (pv 5) (pa_cons (pe_callB call_len_seq (by rfl) z.len PySem.boot_len (pa_cons (pv 1) pa_nil)) pa_nil))))))))) (pss_one (ps_ret pe_non)) pss_nil)
      (pss_one (ps_ret (pe_op op_sub (pe_ix ix_list (pv 1) (pv 5) (fun _ _ => rfl)) (pv 4)))))), ?_⟩
    match r, hk, hok, hra, q with
    | .move m a, _, hok, hra, q =>
      obtain ⟨h1, h2⟩ := hok
      refine ⟨_, rfl, ra, _, rfl, SqT.of hra, rfl, _, _, rfl, _, _, rfl, _, _, rfl, rfl, _, rfl, _, true, rfl, .inl ⟨m, rfl, rfl⟩, _, rfl, iteF ⟨_, rfl, _, rfl, _, _, rfl, rfl, _, rfl, iteC (d := false) (decide_eq_false (by split <;> omega)) (iteF ⟨_, rfl, _, rfl, pa, _, rfl, .inl (SqL.of hpa), _, _, rfl, by omega, by rw [lenI]; omega, _, rfl, iteF ?_⟩)⟩⟩
      exact ⟨_, rfl, _, rfl, pa, _, _, _, rfl, rfl, SqL.of hpa, ints_at h2, _, rfl, _, _, rfl, rfl, q⟩
theorem sc_keep_point : FnScope ["row", "points", "given", "word", "form", "at", "form_points"] ["row", "points", "given"] (defScope s_keep_point) := ⟨rfl, rfl, rfl, by decide +kernel, rfl, by decide +kernel, by decide +kernel⟩
theorem ok_keep_point {f : Addr} {fd : FuncData} (z : Zs mg) (c_is_place : Cal P w K mg base 2 "is_place" ["thing", "many"] spPlace) (F : Fun K "keep_point" "keep_point" s_keep_point f fd) : FnOk P w K mg base CX0 3 f fd ["row", "points", "given"] (spRule .keep) := by
  refine F.ok sc_keep_point (fun vs H Q E h => ?_) (fun cdv A outer s H vs Q E hr h => ?_)
  · obtain ⟨ra, pa, gv, r, en, hp, fp, pts, rfl, _⟩ := h
    rfl
  · obtain ⟨ra, pa, gv, r, en, hp, fp, pts, rfl, hra, hk, hpa, ⟨ha, fa, hgv, hha, hfa⟩, hok, q⟩ := h
    refine ⟨_, (pss_cons (ps_asg (pv 0) (pg_tup (by rfl) (pgs_cons (pg_name (i := 3) sc_keep_point.nd rfl (.inl rfl)) (pgs_cons (pg_name (i := 4) sc_keep_point.nd rfl (.inl rfl)) (pgs_cons (pg_name (i := 5) sc_keep_point.nd rfl (.inl rfl)) pgs_nil)))))
      (pss_cons (ps_set (i := 6) sc_keep_point.nd rfl (.inl rfl) (pe_ix ix_tup (pv 2) pe_int (fun _ _ => rfl)))
      (pss_cons (ps_if (PW.pt (pw_or (pt_not (pt_val (pe_cal c_is_place hr (pa_cons (pv 4) (pa_cons (pe_callB call_len_seq (by rfl) z.len PySem.boot_len (pa_cons (pv 6) pa_nil)) pa_nil))))) (pw_or1 (pt_not (pt_val (pe_cal c_is_place hr (pa_cons (pv 5) (pa_cons (pe_callB call_len_seq (by rfl) z.len PySem.boot_len (pa_cons (pv 1) pa_nil)) pa_nil)))))))) (pss_one (ps_ret pe_non)) pss_nil)
      (pss_one (ps_ret (pe_ix ix_list (pv 6) (pv 4) (fun _ _ => rfl))))))), ?_⟩
    match r, hk, hok, hra, q with
    | .keep f a, _, hok, hra, q =>
      obtain ⟨h1, h2⟩ := hok
      refine ⟨_, rfl, ra, _, rfl, SqT.of hra, rfl, _, _, rfl, _, _, rfl, _, _, rfl, rfl, _, rfl, gv, _, 2, .ref fa, rfl, rfl, SqT.of hgv, a2, _, rfl, _, rfl, fa, _, rfl, .inl (SqL.of hfa), _, _, rfl, by omega, by rw [lenI]; omega, _, rfl, iteF ⟨_, rfl, _, rfl, pa, _, rfl, .inl (SqL.of hpa), _, _, rfl, by omega, by rw [lenI]; omega, _, rfl, iteF ?_⟩⟩
      exact ⟨_, rfl, _, rfl, fa, _, _, _, rfl, rfl, SqL.of hfa, ints_at h1, q⟩
theorem sc_is_written_as_row : FnScope ["thing"] ["thing"] (defScope s_is_written_as_row) := ⟨rfl, rfl, rfl, by decide +kernel, rfl, by decide +kernel, by decide +kernel⟩
theorem ok_is_written_as_row {f : Addr} {fd : FuncData} {k : Nat} {dL : Addr} {eL : Array DictEntry} {nL : Nat} (LE : Lens w K mg dL eL nL) (F : Fun K "is_written_as_row" "is_written_as_row" s_is_written_as_row f fd) (z : Zs mg) : FnOk P w K mg base CX0 (k + 1) f fd ["thing"] spWritten := by
  refine F.ok sc_is_written_as_row (fun vs H Q E h => ?_) (fun cdv A outer s H vs Q E hr h => ?_)
  · obtain ⟨ra, r, rfl, _⟩ := h
    rfl
  · obtain ⟨ra, r, rfl, hra, q⟩ := h
    refine ⟨_, (pss_cons (ps_if (PW.pt (pw_or (pt_not (pt_val (pe_callB call_isi (by rfl) z.isinstance (by decide +kernel) (pa_cons (pv 0) (pa_cons (pe_bltn (v := .ty "tuple") (by rfl) z.tuple (by decide +kernel) rfl) pa_nil))))) (pw_or (pt_not (pt_truth (pv 0) (by intro _; rfl))) (pw_or1 (pt_not (pt_val (pe_callB call_isi (by rfl) z.isinstance (by decide +kernel) (pa_cons (pe_ix ix_tup (pv 0) pe_int (fun _ _ => rfl)) (pa_cons (pe_bltn (v := .ty "str") (by rfl) z.str (by decide +kernel) rfl) pa_nil))))))))) (pss_one (ps_ret pe_bl)) pss_nil)
      (pss_one (ps_ret (pe_and (pe_cmpR (op_in_kd LE.D) (pe_ix ix_tup (pv 0) pe_int (fun _ _ => rfl)) (pe_glob (v := .ref dL) (by rfl) LE.gm rfl) (by rfl)) (pe_one (pe_cmpR op_eq (pe_callB call_len_seq (by rfl) z.len PySem.boot_len (pa_cons (pv 0) pa_nil)) (pe_ix ix_kdict (pe_glob (v := .ref dL) (by rfl) LE.gm rfl) (pe_ix ix_tup (pv 0) pe_int (fun _ _ => rfl)) (fun _ _ => rfl)) (nomark _))))))), ?_⟩
    obtain ⟨t, hL⟩ := LE.at_ r.kd
    have l0 : (!r.vs.isEmpty) = true := by cases r <;> rfl
    refine ⟨_, rfl, _, .ty "tuple", _, _, true, rfl, .ty _, .base (.tup hra), kit_ty (by decide +kernel), _, rfl, iteF ⟨_, rfl, true, .inr (.inl ⟨_, SqT.of hra, l0.symm⟩), iteF ⟨_, rfl, ra, _, 0, .str r.kd.s, rfl, rfl, SqT.of hra, atI_nat (j := 0) r.vs0, _, .ty "str", _, _, true, rfl, .ty _, .base (.str _), kit_ty (by decide +kernel), _, rfl, iteF ?_⟩⟩⟩
    refine ⟨_, rfl, ra, _, 0, .str r.kd.s, rfl, rfl, SqT.of hra, atI_nat (j := 0) r.vs0, _, _, rfl, rfl, hL, _, rfl, iteT ⟨_, rfl, ra, _, rfl, .inr (SqT.of hra), _, rfl, ra, _, 0, .str r.kd.s, rfl, rfl, SqT.of hra, atI_nat (j := 0) r.vs0, dL, r.kd.s, .int (r.kd.n : Int), rfl, rfl, ⟨eL, nL, _, LE.D.at_, LE.D.lit, hL, ⟨_, rfl⟩⟩, rfl, ?_⟩⟩
    rw [r.vs_len, decide_eq_true rfl]
    exact q
theorem sc_row_point : FnScope ["row", "points", "given", "rule", "point"] ["row", "points", "given"] (defScope s_row_point) := ⟨rfl, rfl, rfl, by decide +kernel, rfl, by decide +kernel, by decide +kernel⟩
theorem ok_row_point {f : Addr} {fd : FuncData} {dP : Addr} {eP : Array DictEntry} {nP : Nat} (RU : Ruls P w K mg base dP eP nP) (NC : NCst mg) (F : Fun K "row_point" "row_point" s_row_point f fd) (z : Zs mg) (c_is_written_as_row : Cal P w K mg base 1 "is_written_as_row" ["thing"] spWritten) : FnOk P w K mg base CX0 4 f fd ["row", "points", "given"] spRowPt := by
  refine F.ok sc_row_point (fun vs H Q E h => ?_) (fun cdv A outer s H vs Q E hr h => ?_)
  · obtain ⟨ra, pa, gv, r, en, hp, fp, pts, rfl, _⟩ := h
    rfl
  · obtain ⟨ra, pa, gv, r, en, hp, fp, pts, rfl, hra, hpa, hg, hok, p0, p1, q⟩ := h
    obtain ⟨fR, fdR, h1, hK, hB, hF⟩ := RU.at_ r.kd
    refine ⟨_, (pss_cons (ps_if (pt_not (pt_val (pe_cal c_is_written_as_row hr (pa_cons (pv 0) pa_nil)))) (pss_one (ps_ret pe_non)) pss_nil)
      (pss_cons (ps_set (i := 3) sc_row_point.nd rfl (.inl rfl) (pe_ix ix_kdict (pe_glob (v := .ref dP) (by rfl) RU.gm rfl) (pe_ix ix_tup (pv 0) pe_int (fun _ _ => rfl)) (fun _ _ => rfl)))
      (pss_cons (ps_set (i := 4) sc_row_point.nd rfl (.inl rfl) (pe_callL (i := 3) hF hr rfl (Or.inl rfl) hK hB .nil pass0 (pa_cons (pv 0) (pa_cons (pv 1) (pa_cons (pv 2) pa_nil)))))
      (pss_one (ps_ret (pe_ifExp (PW.pt (pw_and (pt_cmpR op_notN (pv 4) pe_non (nomark _)) (pw_and1 (pt_cmpR op_le (pe_callB call_abs (by rfl) z.abs (by decide +kernel) (pa_cons (pv 4) pa_nil)) (pe_glob (v := .int 200) (by rfl) NC.gr.choose_spec ⟨_, rfl⟩) (nomark _))))) (pv 4) pe_non)))))), ?_⟩
    refine ⟨_, rfl, ra, r, rfl, hra, _, rfl, iteF ?_⟩
    refine ⟨_, rfl, ra, _, 0, .str r.kd.s, rfl, rfl, SqT.of hra, atI_nat (j := 0) r.vs0, dP, r.kd.s, .ref fR, rfl, rfl, ⟨eP, nP, _, RU.D.at_, RU.D.lit, h1, rfl⟩, ?_⟩
    refine ⟨rfl, _, rfl, _, rfl, _, rfl, ra, pa, gv, r, en, hp, fp, pts, rfl, hra, rfl, hpa, hg, hok, ?_⟩
    refine ⟨_, rfl, rfl, _, rfl, iteT ⟨_, rfl, _, rfl, _, _, rfl, rfl, _, rfl, iteC (d := true) (decide_eq_true (by split <;> omega)) (iteT ⟨_, rfl, q⟩)⟩⟩
end
end E1

namespace E1
open PySem PySem.Spec PyProof.Rows L2

/-- what the written part says of the class of forms -/
structure IsC (K : PySem.W.Frag) (mg : Str → Option Value) (C : Addr) : Prop where
  gC : mg "Form" = some (.ref C)
  ha : PySem.W.findIn K (.ref C) "__class__" = some (some (.builtin "object.__class__"))
  hn : PySem.W.specialIn K (.builtin "object.__class__") "__get__" = some (some (.builtin "getset_descriptor.__get__"))
  ht : PySem.W.takesIn K (.builtin "object.__class__") = some true
  hm : PySem.W.mroIn K C (.type "object") = some true
  kC : PySem.W.kitOne K (.ref C) (.ref C) = some true
def spLen4 : Sp := fun vs H Q _ => ∃ (a : Addr) (xs : List V) (z : Str) (lo hi : Int), vs = [.ref a, .str z, .int lo, .int hi] ∧ H a = some (.lst xs) ∧ lo ≤ xs.length ∧ (xs.length : Int) ≤ hi ∧ Q .non H
def spCkForms (C : Addr) : Sp := fun vs H Q _ => ∃ (a : Addr) (fv : List V) (fs : List FormP), vs = [.ref a] ∧ H a = some (.lst fv) ∧ FsAt C H fv fs ∧ 1 ≤ fs.length ∧ fs.length ≤ 12 ∧ ∀ H', Same H H' → Q .non H'
def spIsHold (C : Addr) : Sp := fun vs H Q _ => ∃ (ta a : Addr) (fv : List V) (fs : List FormP) (h : Hold) (f : FormP), vs = [.ref ta, .ref a] ∧ H ta = some (.tup h.vs) ∧ H a = some (.lst fv) ∧ FsAt C H fv fs ∧ fs[h.k]? = some f ∧ inR f.w h.s = true ∧ Q (.bl true) H
def spCkHolds (C : Addr) : Sp := fun vs H Q _ => ∃ (b a : Addr) (hv fv : List V) (fs : List FormP) (hs : List Hold), vs = [.ref b, .ref a] ∧ H b = some (.lst hv) ∧ TsAt H hv (hs.map Hold.vs) ∧ H a = some (.lst fv) ∧ FsAt C H fv fs ∧ hs.length ≤ 6 ∧ (∀ h ∈ hs, h.k < fs.length ∧ ∀ f, fs[h.k]? = some f → inR f.w h.s = true) ∧ ∀ H', Same H H' → Q .non H'
def spCkPts : Sp := fun vs H Q _ => ∃ (ra gv : Addr) (rv : List V) (rows : List Row) (en : Int) (hp fp : List Int), vs = [.ref ra, .ref gv] ∧ H ra = some (.lst rv) ∧ TsAt H rv (rows.map Row.vs) ∧ GivenAt H gv en hp fp ∧ 1 ≤ rows.length ∧ rows.length ≤ 60 ∧ (∀ i r, rows[i]? = some r → RowOk hp.length fp.length i r) ∧ (∀ p ∈ ptsOf en hp fp rows, -200 ≤ p ∧ p ≤ 200) ∧
  ∀ p H', Same H H' → H p = none → H' p = some (.lst ((ptsOf en hp fp rows).map V.int)) → Q (.ref p) H'
def spCkLinks : Sp := fun vs H Q _ => ∃ (b ra : Addr) (hv rv : List V) (hs : List Hold) (rows : List Row), vs = [.ref b, .ref ra] ∧ H b = some (.lst hv) ∧ TsAt H hv (hs.map Hold.vs) ∧ H ra = some (.lst rv) ∧ TsAt H rv (rows.map Row.vs) ∧ (∀ h ∈ hs, ∃ a, rows[h.l]? = some (.keep h.k a)) ∧ ∀ H', Same H H' → Q .non H'
def spNetInit (C CN : Addr) : Sp := fun vs H Q _ => ∃ (p dx fl rl hl : Addr) (n : NetP) (fv rv hv : List V), vs = [.ref p, .ref fl, .int n.en, .ref rl, .ref hl, .int n.out] ∧ H p = some (.ins CN dx []) ∧ H fl = some (.lst fv) ∧ FsAt C H fv n.fs ∧ H rl = some (.lst rv) ∧ TsAt H rv (n.rows.map Row.vs) ∧ H hl = some (.lst hv) ∧ TsAt H hv (n.holds.map Hold.vs) ∧ NetOk n ∧
  ∀ H', NetAt C CN H' p n → (∀ b o, b ≠ p → H b = some o → H' b = some o) → Q .non H'
theorem GivenAt.same {H H' : Hp} {gv : Addr} {en : Int} {hp fp : List Int} (h : GivenAt H gv en hp fp) (s : Same H H') : GivenAt H' gv en hp fp := by
  obtain ⟨ha, fa, a, b, c⟩ := h
  exact ⟨ha, fa, s _ _ a, s _ _ b, s _ _ c⟩
theorem ptsOf_next {en : Int} {hp fp : List Int} {rows : List Row} {i : Nat} {r : Row} (h : rows[i]? = some r) : ptsOf en hp fp (rows.take (i + 1)) = ptsOf en hp fp (rows.take i) ++ [rowPt en hp fp (ptsOf en hp fp (rows.take i)) r] := by
  rw [List.take_add_one, h, Option.toList_some, ptsOf_snoc]
theorem ptsOf_in {en : Int} {hp fp : List Int} {rows : List Row} {i : Nat} {r : Row} (h : rows[i]? = some r) : rowPt en hp fp (ptsOf en hp fp (rows.take i)) r ∈ ptsOf en hp fp rows := by
  have e := ptsOf_take en hp fp rows (i + 1)
  rw [ptsOf_next h] at e
  have : rowPt en hp fp (ptsOf en hp fp (rows.take i)) r ∈ (ptsOf en hp fp rows).take (i + 1) := by
    rw [e]
    exact List.mem_append.mpr (.inr (List.mem_singleton.mpr rfl))
  exact List.mem_of_mem_take this
theorem putF_app {k : Str} {v : V} : ∀ {l : List (Str × V)}, ((l.map (·.1)).all fun x => decide (x ≠ k)) = true → putF k v l = l ++ [(k, v)]
  | [], _ => rfl
  | (g, x) :: r, h => by
    rw [List.map_cons, List.all_cons, Bool.and_eq_true, decide_eq_true_eq] at h
    show (if g = k then (g, v) :: r else (g, x) :: putF k v r) = _
    rw [if_neg h.1, putF_app h.2]
    rfl
theorem kp_lay (k : Int) : PyData.canLay0 (.tuple [.str "keep", .int k]) = true := by
  simp only [PyData.canLay0, PyData.canLayAll0, Bool.and_true]
  decide +kernel
theorem kp_shaped (k : Int) : SeqAt.shaped (.tuple [.str "keep", .int k]) = true := by
  show (PyData.canLay0 (.tuple [.str "keep", .int k]) && decide (PyData.depth (.tuple [.str "keep", .int k]) ≤ 64)) = true
  rw [kp_lay, Bool.true_and]
  simp only [PyData.depth, PyData.depthAll]
  rfl
def fks : List Str := ["form_list", "enters_at", "row_list", "hold_list", "out_at", "point_list"]
theorem fks_new : ∀ i : Fin 6, ((fks.take i.val).all fun x => decide (x ≠ fks[i.val]'i.isLt)) = true := by decide +kernel
theorem nf0 {a : V} : putF "form_list" a [] = [(("form_list" : Str), a)] := rfl
theorem nf1 {a b : V} : putF "enters_at" b [(("form_list" : Str), a)] = [(("form_list" : Str), a), ("enters_at", b)] := putF_app (fks_new 1)
theorem nf2 {a b c : V} : putF "row_list" c [(("form_list" : Str), a), ("enters_at", b)] = [(("form_list" : Str), a), ("enters_at", b), ("row_list", c)] := putF_app (fks_new 2)
theorem nf3 {a b c d : V} : putF "hold_list" d [(("form_list" : Str), a), ("enters_at", b), ("row_list", c)] = [(("form_list" : Str), a), ("enters_at", b), ("row_list", c), ("hold_list", d)] := putF_app (fks_new 3)
theorem nf4 {a b c d e : V} : putF "out_at" e [(("form_list" : Str), a), ("enters_at", b), ("row_list", c), ("hold_list", d)] = [(("form_list" : Str), a), ("enters_at", b), ("row_list", c), ("hold_list", d), ("out_at", e)] := putF_app (fks_new 4)
theorem nf5 {a b c d e f : V} : putF "point_list" f [(("form_list" : Str), a), ("enters_at", b), ("row_list", c), ("hold_list", d), ("out_at", e)] = [(("form_list" : Str), a), ("enters_at", b), ("row_list", c), ("hold_list", d), ("out_at", e), ("point_list", f)] := putF_app (fks_new 5)
section
variable {P : Program} {w : World} {K : PySem.W.Frag} {mg : Str → Option Value} {base : Heap}
theorem sc_check_length : FnScope ["thing", "part", "least", "most"] ["thing", "part", "least", "most"] (defScope s_check_length) := ⟨rfl, rfl, rfl, by decide +kernel, rfl, by decide +kernel, by decide +kernel⟩
theorem ok_check_length {f : Addr} {fd : FuncData} {k : Nat} (F : Fun K "check_length" "check_length" s_check_length f fd) (z : Zs mg) : FnOk P w K mg base CX0 (k + 1) f fd ["thing", "part", "least", "most"] spLen4 := by
  refine F.ok sc_check_length (fun vs H Q E h => ?_) (fun cdv A outer s H vs Q E hr h => ?_)
  · obtain ⟨a, xs, zz, lo, hi, rfl, _⟩ := h
    rfl
  · obtain ⟨a, xs, zz, lo, hi, rfl, ha, l0, l1, q⟩ := h
    refine ⟨_, (pss_one (ps_if (PW.pt (pw_or (pt_not (pt_val (pe_callB call_isi (by rfl) z.isinstance (by decide +kernel) (pa_cons (pv 0) (pa_cons (pe_bltn (v := .ty "list") (by rfl) z.list (by decide +kernel) rfl) pa_nil))))) (pw_or1 (pt_not (pt_chain op_le op_le (pv 2) (pe_callB call_len_seq (by rfl) z.len PySem.boot_len (pa_cons (pv 0) pa_nil)) (pv 3)))))) (pss_one ps_never) pss_nil)), ?_⟩
    refine ⟨_, rfl, _, .ty "list", _, _, true, rfl, .ty _, .base (.lst ha), kit_ty (by decide +kernel), _, rfl, iteF ⟨_, rfl, _, rfl, a, _, rfl, .inl (SqL.of ha), _, _, rfl, rfl, _, rfl, ?_⟩⟩
    refine iteC (d := true) (decide_eq_true l0) (iteT ⟨_, rfl, _, _, rfl, rfl, _, rfl, ?_⟩)
    exact iteC (d := false) (by rw [decide_eq_true (show (xs.length : Int) ≤ hi from l1)]; rfl) (iteF q)
theorem sc_check_forms : FnScope ["forms", "at", "form"] ["forms"] (defScope s_check_forms) := ⟨rfl, rfl, rfl, by decide +kernel, rfl, by decide +kernel, by decide +kernel⟩
theorem ok_check_forms {f : Addr} {fd : FuncData} {C : Addr} (T : FTxt K mg C) (IC : IsC K mg C) (NC : NCst mg) (F : Fun K "check_forms" "check_forms" s_check_forms f fd) (z : Zs mg) (c_check_length : Cal P w K mg base 1 "check_length" ["thing", "part", "least", "most"] spLen4) : FnOk P w K mg base CX0 2 f fd ["forms"] (spCkForms C) := by
  refine F.ok sc_check_forms (fun vs H Q E h => ?_) (fun cdv A outer s H vs Q E hr h => ?_)
  · obtain ⟨a, fv, fs, rfl, _⟩ := h
    rfl
  · obtain ⟨a, fv, fs, rfl, ha, hf, l0, l1, q⟩ := h
    refine ⟨_, (pss_cons (ps_expr (pe_cal c_check_length hr (pa_cons (pv 0) (pa_cons pe_str (pa_cons pe_int (pa_cons (pe_glob (v := .int 12) (by rfl) NC.mf.choose_spec ⟨_, rfl⟩) pa_nil))))))
      (pss_one (ps_for PassesOwn.never rfl (pi_enum (by rfl) z.enumerate (pa_cons (pv 0) pa_nil)) (pg_tup (by rfl) (pgs_cons (pg_name (i := 1) sc_check_forms.nd rfl (.inl rfl)) (pgs_cons (pg_name (i := 2) sc_check_forms.nd rfl (.inl rfl)) pgs_nil))) (pss_one (ps_if (pt_not (pt_val (pe_callB call_isi (by rfl) z.isinstance (by decide +kernel) (pa_cons (pv 2) (pa_cons (pe_glob (v := .ref C) (by rfl) IC.gC rfl) pa_nil))))) (pss_one ps_never) pss_nil))))), ?_⟩
    have ll := hf.len
    refine ⟨_, rfl, a, fv, _, _, _, rfl, ha, by omega, by omega, ?_⟩
    refine ⟨_, rfl, a, _, rfl, SqL.of ha, for_it (walk_enum (K := K) (a := a) (xs := fv)) (fun i σ H' => ∃ y3 y4 : Option V, σ = [some (.ref a), y3, y4] ∧ Same H H') ⟨none, none, rfl, Same.refl _⟩ (fun i σ H' _ hP => ?_) (fun i v σ H1 H2 hi hP hY => ?_) (fun σ H' hP => ?_)⟩
    · obtain ⟨y3, y4, rfl, s1⟩ := hP
      exact SqL.of (s1 _ _ ha)
    · obtain ⟨y3, y4, rfl, s1⟩ := hP
      obtain ⟨Tp, u, v', rfl, nT, rfl, e1, e2⟩ := hY
      cases e1
      obtain ⟨p, f, rfl, _, hp⟩ := hf.get e2
      have s2 := s1.trans (same_new (o := .tup [.int (i : Nat), .ref p]) nT)
      obtain ⟨dx, ho⟩ := (FormAt.same hp s2).ob
      refine ⟨Tp, _, rfl, SqT.of upd_same, rfl, _, _, rfl, _, _, rfl, rfl, ?_⟩
      exact ⟨_, rfl, _, .ref C, .ref C, .ref C, true, rfl, .own C, .base (.ins ho T.cl IC.ha IC.hn IC.ht IC.hm), IC.kC, _, rfl, iteF ⟨_, _, rfl, s2⟩⟩
    · obtain ⟨y3, y4, rfl, s1⟩ := hP
      exact q _ s1
theorem sc_is_hold : FnScope ["thing", "forms"] ["thing", "forms"] (defScope s_is_hold) := ⟨rfl, rfl, rfl, by decide +kernel, rfl, by decide +kernel, by decide +kernel⟩
theorem ok_is_hold {f : Addr} {fd : FuncData} {C : Addr} (T : FTxt K mg C) (F : Fun K "is_hold" "is_hold" s_is_hold f fd) (z : Zs mg) (c_is_place : Cal P w K mg base 2 "is_place" ["thing", "many"] spPlace) (m_has : CalM P w K mg base 2 C "has" ["self", "thing"] (spHas K C)) : FnOk P w K mg base CX0 3 f fd ["thing", "forms"] (spIsHold C) := by
  refine F.ok sc_is_hold (fun vs H Q E h => ?_) (fun cdv A outer s H vs Q E hr h => ?_)
  · obtain ⟨ta, a, fv, fs, h, f, rfl, _⟩ := h
    rfl
  · obtain ⟨ta, a, fv, fs, h, f, rfl, hta, ha, hf, hk, hin, q⟩ := h
    refine ⟨_, (pss_cons (ps_if (PW.pt (pw_or (pt_not (pt_val (pe_callB call_isi (by rfl) z.isinstance (by decide +kernel) (pa_cons (pv 0) (pa_cons (pe_bltn (v := .ty "tuple") (by rfl) z.tuple (by decide +kernel) rfl) pa_nil))))) (pw_or1 (pt_cmpR op_ne (pe_callB call_len_seq (by rfl) z.len PySem.boot_len (pa_cons (pv 0) pa_nil)) pe_int (nomark _))))) (pss_one (ps_ret pe_bl)) pss_nil)
      (pss_one (ps_ret (pe_and (pe_cal c_is_place hr (pa_cons (pe_ix ix_tup (pv 0) pe_int (fun _ _ => rfl)) (pa_cons (pe_callB call_len_seq (by rfl) z.len PySem.boot_len (pa_cons (pv 1) pa_nil)) pa_nil))) (pe_one (pe_calm (pe_ix ix_list (pv 1) (pe_ix ix_tup (pv 0) pe_int (fun _ _ => rfl)) (fun _ _ => rfl)) T.cl m_has hr (pa_cons (pe_ix ix_tup (pv 0) pe_int (fun _ _ => rfl)) pa_nil))))))), ?_⟩
    have ll := hf.len
    have kl : h.k < fs.length := (List.getElem?_eq_some_iff.mp hk).1
    obtain ⟨p, ep, fp⟩ := hf.at hk
    obtain ⟨dx, ho⟩ := fp.ob
    refine ⟨_, rfl, _, .ty "tuple", _, _, true, rfl, .ty _, .base (.tup hta), kit_ty (by decide +kernel), _, rfl, iteF ⟨_, rfl, ta, _, rfl, .inr (SqT.of hta), rfl, _, rfl, iteF ?_⟩⟩
    refine ⟨_, rfl, ta, _, 0, .int h.k, rfl, rfl, SqT.of hta, a0, _, rfl, a, _, rfl, .inl (SqL.of ha), _, _, rfl, by omega, by omega, _, rfl, iteT ?_⟩
    refine ⟨_, rfl, _, rfl, ta, _, 0, .int h.k, rfl, rfl, SqT.of hta, a0, a, _, _, .ref p, rfl, rfl, SqL.of ha, atI_nat ep, p, dx, _, rfl, ho, fl_no (by decide +kernel), _, rfl, ta, _, 1, .int h.s, rfl, rfl, SqT.of hta, a1, p, f.w, f.pt, f.m, f.st, .int h.s, _, rfl, fp, .inl ⟨_, rfl, rfl⟩, ?_⟩
    rw [hin]
    exact q
theorem sc_check_holds : FnScope ["holds", "forms", "at", "hold"] ["holds", "forms"] (defScope s_check_holds) := ⟨rfl, rfl, rfl, by decide +kernel, rfl, by decide +kernel, by decide +kernel⟩
theorem ok_check_holds {f : Addr} {fd : FuncData} {C : Addr} (NC : NCst mg) (F : Fun K "check_holds" "check_holds" s_check_holds f fd) (z : Zs mg) (c_check_length : Cal P w K mg base 1 "check_length" ["thing", "part", "least", "most"] spLen4) (c_is_hold : Cal P w K mg base 3 "is_hold" ["thing", "forms"] (spIsHold C)) : FnOk P w K mg base CX0 4 f fd ["holds", "forms"] (spCkHolds C) := by
  refine F.ok sc_check_holds (fun vs H Q E h => ?_) (fun cdv A outer s H vs Q E hr h => ?_)
  · obtain ⟨b, a, hv, fv, fs, hs, rfl, _⟩ := h
    rfl
  · obtain ⟨b, a, hv, fv, fs, hs, rfl, hb, ht, ha, hf, l1, ho, q⟩ := h
    refine ⟨_, (pss_cons (ps_expr (pe_cal c_check_length hr (pa_cons (pv 0) (pa_cons pe_str (pa_cons pe_int (pa_cons (pe_glob (v := .int 6) (by rfl) NC.mh.choose_spec ⟨_, rfl⟩) pa_nil))))))
      (pss_one (ps_for PassesOwn.never rfl (pi_enum (by rfl) z.enumerate (pa_cons (pv 0) pa_nil)) (pg_tup (by rfl) (pgs_cons (pg_name (i := 2) sc_check_holds.nd rfl (.inl rfl)) (pgs_cons (pg_name (i := 3) sc_check_holds.nd rfl (.inl rfl)) pgs_nil))) (pss_one (ps_if (pt_not (pt_val (pe_cal c_is_hold hr (pa_cons (pv 3) (pa_cons (pv 1) pa_nil))))) (pss_one ps_never) pss_nil))))), ?_⟩
    have ll := ht.len
    rw [List.length_map] at ll
    refine ⟨_, rfl, b, hv, _, _, _, rfl, hb, by omega, by omega, ?_⟩
    refine ⟨_, rfl, b, _, rfl, SqL.of hb, for_it (walk_enum (K := K) (a := b) (xs := hv)) (fun i σ H' => ∃ y3 y4 : Option V, σ = [some (.ref b), some (.ref a), y3, y4] ∧ Same H H') ⟨none, none, rfl, Same.refl _⟩ (fun i σ H' _ hP => ?_) (fun i v σ H1 H2 hi hP hY => ?_) (fun σ H' hP => ?_)⟩
    · obtain ⟨y3, y4, rfl, s1⟩ := hP
      exact SqL.of (s1 _ _ hb)
    · obtain ⟨y3, y4, rfl, s1⟩ := hP
      obtain ⟨Tp, u, v', rfl, nT, rfl, e1, e2⟩ := hY
      cases e1
      obtain ⟨p, xs, rfl, ex, hp⟩ := ht.get e2
      rw [List.getElem?_map] at ex
      obtain ⟨hh, eh, rfl⟩ := Option.map_eq_some_iff.mp ex
      obtain ⟨o1, o2⟩ := ho hh (List.mem_of_getElem? eh)
      have s2 := s1.trans (same_new (o := .tup [.int (i : Nat), .ref p]) nT)
      refine ⟨Tp, _, rfl, SqT.of upd_same, rfl, _, _, rfl, _, _, rfl, rfl, ?_⟩
      refine ⟨_, rfl, _, rfl, p, a, fv, fs, hh, fs[hh.k], rfl, s2 _ _ hp, s2 _ _ ha, hf.same s2, List.getElem?_eq_getElem o1, o2 _ (List.getElem?_eq_getElem o1), _, rfl, iteF ⟨_, _, rfl, s2⟩⟩
    · obtain ⟨y3, y4, rfl, s1⟩ := hP
      exact q _ s1
theorem sc_checked_points : FnScope ["rows", "given", "points", "at", "row", "point"] ["rows", "given"] (defScope s_checked_points) := ⟨rfl, rfl, rfl, by decide +kernel, rfl, by decide +kernel, by decide +kernel⟩
theorem ok_checked_points {f : Addr} {fd : FuncData} (NC : NCst mg) (F : Fun K "checked_points" "checked_points" s_checked_points f fd) (z : Zs mg) (c_check_length : Cal P w K mg base 1 "check_length" ["thing", "part", "least", "most"] spLen4) (c_row_point : Cal P w K mg base 4 "row_point" ["row", "points", "given"] spRowPt) : FnOk P w K mg base CX0 5 f fd ["rows", "given"] spCkPts := by
  refine F.ok sc_checked_points (fun vs H Q E h => ?_) (fun cdv A outer s H vs Q E hr h => ?_)
  · obtain ⟨ra, gv, rv, rows, en, hp, fp, rfl, _⟩ := h
    rfl
  · obtain ⟨ra, gv, rv, rows, en, hp, fp, rfl, hra, hrs, hg, l0, l1, ro, po, q⟩ := h
    refine ⟨_, (pss_cons (ps_expr (pe_cal c_check_length hr (pa_cons (pv 0) (pa_cons pe_str (pa_cons pe_int (pa_cons (pe_glob (v := .int 60) (by rfl) NC.mr.choose_spec ⟨_, rfl⟩) pa_nil))))))
      (pss_cons (ps_set (i := 2) sc_checked_points.nd rfl (.inl rfl) (pe_lst pa_nil))
      (pss_cons (ps_for PassesOwn.never rfl (pi_enum (by rfl) z.enumerate (pa_cons (pv 0) pa_nil)) (pg_tup (by rfl) (pgs_cons (pg_name (i := 3) sc_checked_points.nd rfl (.inl rfl)) (pgs_cons (pg_name (i := 4) sc_checked_points.nd rfl (.inl rfl)) pgs_nil))) (pss_cons (ps_set (i := 5) sc_checked_points.nd rfl (.inl rfl) (pe_cal c_row_point hr (pa_cons (pv 4) (pa_cons (pv 2) (pa_cons (pv 1) pa_nil)))))
      (pss_cons (ps_if (pt_cmpR op_isN (pv 5) pe_non (nomark _)) (pss_one ps_never) pss_nil)
      (pss_one (ps_expr (pe_bm PySem.F.plainAttrs_list PySem.F.slot_list_append PySem.F.type_list_append mt_append (pv 2) (pa_cons (pv 5) pa_nil)))))))
      (pss_one (ps_ret (pv 2)))))), ?_⟩
    have ll := hrs.len
    rw [List.length_map] at ll
    refine ⟨_, rfl, ra, rv, _, _, _, rfl, hra, by omega, by omega, ?_⟩
    refine ⟨(by show 0 ≤ sizeLine; decide), fun pl hpl => ?_⟩
    generalize hG : upd _ pl _ = G0
    obtain ⟨s0, h_pl⟩ := upd_gen hG hpl
    refine ⟨_, rfl, ra, _, rfl, SqL.of (s0 _ _ hra), for_it (walk_enum (K := K) (a := ra) (xs := rv)) (fun i σ H' => ∃ y3 y4 y5 : Option V, σ = [some (.ref ra), some (.ref gv), some (.ref pl), y3, y4, y5] ∧ Same H H' ∧ H' pl = some (.lst ((ptsOf en hp fp (rows.take i)).map V.int))) ⟨none, none, none, rfl, s0, h_pl⟩ (fun i σ H' _ hP => ?_) (fun i v σ H1 H2 hi hP hY => ?_) (fun σ H' hP => ?_)⟩
    · obtain ⟨y3, y4, y5, rfl, s1, _⟩ := hP
      exact SqL.of (s1 _ _ hra)
    · obtain ⟨y3, y4, y5, rfl, s1, hl⟩ := hP
      obtain ⟨Tp, u, v', rfl, nT, rfl, e1, e2⟩ := hY
      cases e1
      obtain ⟨p, xs, rfl, ex, hp'⟩ := hrs.get e2
      rw [List.getElem?_map] at ex
      obtain ⟨r, er, rfl⟩ := Option.map_eq_some_iff.mp ex
      have sn := same_new (o := .tup [.int (i : Nat), .ref p]) nT
      have s2 := s1.trans sn
      have hl2 := sn _ _ hl
      have li : (ptsOf en hp fp (rows.take i)).length = i := by
        rw [ptsOf_len, List.length_take]
        have := (List.getElem?_eq_some_iff.mp er).1
        omega
      obtain ⟨b0, b1⟩ := po _ (ptsOf_in er)
      refine ⟨Tp, _, rfl, SqT.of upd_same, rfl, _, _, rfl, _, _, rfl, rfl, ?_⟩
      refine ⟨_, rfl, _, rfl, _, rfl, p, pl, gv, r, en, hp, fp, _, rfl, s2 _ _ hp', hl2, hg.same s2, by rw [li]; exact ro i r er, b0, b1, ?_⟩
      refine ⟨_, rfl, rfl, _, rfl, iteF ⟨_, rfl, .inl ⟨rfl, _, SqL.of hl2⟩, _, rfl, pl, _, _, rfl, rfl, hl2, ?_, ?_⟩⟩
      · rw [List.length_map, li]
        exact sl_lt (by omega)
      · refine ⟨_, _, _, rfl, fun b o e => ?_, ?_⟩
        · rw [upd_ne (ne_of_none e hpl)]
          exact s2 _ _ e
        · rw [upd_same, ptsOf_next er, List.map_append]
          rfl
    · obtain ⟨y3, y4, y5, rfl, s1, hl⟩ := hP
      rw [ll, List.take_length] at hl
      exact ⟨_, rfl, q pl _ s1 hpl hl⟩
theorem sc_check_links : FnScope ["holds", "rows", "at", "hold"] ["holds", "rows"] (defScope s_check_links) := ⟨rfl, rfl, rfl, by decide +kernel, rfl, by decide +kernel, by decide +kernel⟩
theorem ok_check_links {f : Addr} {fd : FuncData} (F : Fun K "check_links" "check_links" s_check_links f fd) (z : Zs mg) (c_is_place : Cal P w K mg base 2 "is_place" ["thing", "many"] spPlace) : FnOk P w K mg base CX0 3 f fd ["holds", "rows"] spCkLinks := by
  refine F.ok sc_check_links (fun vs H Q E h => ?_) (fun cdv A outer s H vs Q E hr h => ?_)
  · obtain ⟨b, ra, hv, rv, hs, rows, rfl, _⟩ := h
    rfl
  · obtain ⟨b, ra, hv, rv, hs, rows, rfl, hb, ht, hra, hrs, ho, q⟩ := h
    refine ⟨_, (pss_one (ps_for PassesOwn.never rfl (pi_enum (by rfl) z.enumerate (pa_cons (pv 0) pa_nil)) (pg_tup (by rfl) (pgs_cons (pg_name (i := 2) sc_check_links.nd rfl (.inl rfl)) (pgs_cons (pg_name (i := 3) sc_check_links.nd rfl (.inl rfl)) pgs_nil))) (pss_one (ps_if (PW.pt (pw_or (pt_not (pt_val (pe_cal c_is_place hr (pa_cons (pe_ix ix_tup (pv 3) pe_int (fun _ _ => rfl)) (pa_cons (pe_callB call_len_seq (by rfl) z.len PySem.boot_len (pa_cons (pv 1) pa_nil)) pa_nil))))) (pw_or1 (pt_cmpR (op_neD hr.units) (pe_slice sl_tup (pe_ix ix_list (pv 1) (pe_ix ix_tup (pv 3) pe_int (fun _ _ => rfl)) (fun _ _ => rfl)) po_none (po_some pe_int)) (pe_tup (pa_cons pe_str (pa_cons (pe_ix ix_tup (pv 3) pe_int (fun _ _ => rfl)) pa_nil))) (nomark _))))) (pss_one ps_never) pss_nil)))), ?_⟩
    have ll := hrs.len
    rw [List.length_map] at ll
    refine ⟨_, rfl, b, _, rfl, SqL.of hb, for_it (walk_enum (K := K) (a := b) (xs := hv)) (fun i σ H' => ∃ y3 y4 : Option V, σ = [some (.ref b), some (.ref ra), y3, y4] ∧ Same H H') ⟨none, none, rfl, Same.refl _⟩ (fun i σ H' _ hP => ?_) (fun i v σ H1 H2 hi hP hY => ?_) (fun σ H' hP => ?_)⟩
    · obtain ⟨y3, y4, rfl, s1⟩ := hP
      exact SqL.of (s1 _ _ hb)
    · obtain ⟨y3, y4, rfl, s1⟩ := hP
      obtain ⟨Tp, u, v', rfl, nT, rfl, e1, e2⟩ := hY
      cases e1
      obtain ⟨p, xs, rfl, ex, hp⟩ := ht.get e2
      rw [List.getElem?_map] at ex
      obtain ⟨hh, eh, rfl⟩ := Option.map_eq_some_iff.mp ex
      obtain ⟨a, ea⟩ := ho hh (List.mem_of_getElem? eh)
      have s2 := s1.trans (same_new (o := .tup [.int (i : Nat), .ref p]) nT)
      have al := (List.getElem?_eq_some_iff.mp ea).1
      obtain ⟨rp, erp, hrp⟩ := hrs.at (i := hh.l) (xs := (Row.keep hh.k a).vs) (by rw [List.getElem?_map, ea]; rfl)
      have hp2 := s2 _ _ hp
      refine ⟨Tp, _, rfl, SqT.of upd_same, rfl, _, _, rfl, _, _, rfl, rfl, ?_⟩
      refine ⟨_, rfl, p, _, 2, .int hh.l, rfl, rfl, SqT.of hp2, a2, _, rfl, ra, _, rfl, .inl (SqL.of (s2 _ _ hra)), _, _, rfl, by omega, by omega, _, rfl, iteF ?_⟩
      refine ⟨_, rfl, _, rfl, p, _, 2, .int hh.l, rfl, rfl, SqT.of hp2, a2, ra, _, _, .ref rp, rfl, rfl, SqL.of (s2 _ _ hra), atI_nat erp, _, rfl, rp, _, rfl, SqT.of (s2 _ _ hrp), (by show ¬ (HT.sIx 3 0 none = 0 ∧ HT.sIx 3 3 (some 2) = 3); decide), fun c1 hc1 => ?_⟩
      generalize hG : upd _ c1 _ = G1
      obtain ⟨s3, h_c1⟩ := upd_gen hG hc1
      refine ⟨_, rfl, p, _, 0, .int hh.k, rfl, rfl, SqT.of (s3 _ _ hp2), a0, (by show 2 ≤ sizeLine; decide), fun c2 hc2 => ?_⟩
      generalize hG2 : upd _ c2 _ = G2
      obtain ⟨s4, h_c2⟩ := upd_gen hG2 hc2
      refine ⟨.tuple [.str "keep", .int hh.k], .tuple [.str "keep", .int hh.k], .tup (SqT.of (s4 _ _ h_c1)) (.cons (.str _) (.cons (.int _) .nil)), .tup (SqT.of h_c2) (.cons (.str _) (.cons (.int _) .nil)), kp_shaped _, kp_shaped _, _, rfl, ?_⟩
      refine iteC (d := false) (by rw [SeqAt.eqv_refl _ (kp_lay _)]; rfl) (iteF ⟨_, _, rfl, (s2.trans s3).trans s4⟩)
    · obtain ⟨y3, y4, rfl, s1⟩ := hP
      exact q _ s1
end
end E1

namespace E1
open PySem PySem.Spec PyProof.Rows L2

theorem upd_but {H G : Hp} {p : Addr} {o : HO} (e : upd H p o = G) : SameBut p H G ∧ G p = some o := by
  subst e
  exact ⟨SameBut.upd, upd_same⟩
theorem FsAt.butI {C CN p dx : Addr} {H H' : Hp} {vs : List V} {fs : List FormP} (h : FsAt C H vs fs) (s : SameBut p H H') (hp : H p = some (.ins CN dx [])) : FsAt C H' vs fs := by
  induction h with
  | nil => exact .nil
  | cons e _ ih =>
    obtain ⟨d, ho⟩ := e.ob
    exact .cons ⟨⟨d, s _ _ (fun z => by rw [z, hp] at ho; cases ho) ho⟩, e.wo, e.p0, e.p1⟩ ih
structure NTxt (K : PySem.W.Frag) (mg : Str → Option Value) (CN : Addr) : Prop where
  cl : Cls K CN
  n_form_list : NoAttr K CN "form_list"
  n_enters_at : NoAttr K CN "enters_at"
  n_row_list : NoAttr K CN "row_list"
  n_hold_list : NoAttr K CN "hold_list"
  n_out_at : NoAttr K CN "out_at"
  n_point_list : NoAttr K CN "point_list"
section
variable {P : Program} {w : World} {K : PySem.W.Frag} {mg : Str → Option Value} {base : Heap}
theorem sc_Net___init__ : FnScope ["self", "forms", "enters", "rows", "holds", "out", "form_points", "hold_points", "points", "form", "hold"] ["self", "forms", "enters", "rows", "holds", "out"] (defScope s_Net___init__) := ⟨rfl, rfl, rfl, by decide +kernel, rfl, by decide +kernel, by decide +kernel⟩
theorem ok_Net___init__ {f : Addr} {fd : FuncData} {C CN : Addr} (T : FTxt K mg C) (TN : NTxt K mg CN) (F : Fun K "__init__" "Net.__init__" s_Net___init__ f fd) (z : Zs mg) (c_check_forms : Cal P w K mg base 2 "check_forms" ["forms"] (spCkForms C)) (c_is_place : Cal P w K mg base 2 "is_place" ["thing", "many"] spPlace) (c_check_holds : Cal P w K mg base 4 "check_holds" ["holds", "forms"] (spCkHolds C)) (c_checked_points : Cal P w K mg base 5 "checked_points" ["rows", "given"] spCkPts) (c_check_links : Cal P w K mg base 3 "check_links" ["holds", "rows"] spCkLinks) : FnOk P w K mg base CX0 6 f fd ["self", "forms", "enters", "rows", "holds", "out"] (spNetInit C CN) := by
  refine F.ok sc_Net___init__ (fun vs H Q E h => ?_) (fun cdv A outer s H vs Q E hr h => ?_)
  · obtain ⟨p, dx, fl, rl, hl, n, fv, rv, hv, rfl, _⟩ := h
    rfl
  · obtain ⟨p, dx, fl, rl, hl, n, fv, rv, hv, rfl, hp, hf, hfs, hra, hrs, hha, hhs, ok, q⟩ := h
    refine ⟨_, (pss_cons (ps_expr (pe_cal c_check_forms hr (pa_cons (pv 1) pa_nil)))
      (pss_cons (ps_if (pt_not (pt_val (pe_cal c_is_place hr (pa_cons (pv 2) (pa_cons (pe_callB call_len_seq (by rfl) z.len PySem.boot_len (pa_cons (pv 1) pa_nil)) pa_nil))))) (pss_one ps_never) pss_nil)
      (pss_cons (ps_expr (pe_cal c_check_holds hr (pa_cons (pv 4) (pa_cons (pv 1) pa_nil))))
      (pss_cons (ps_set (i := 6) sc_Net___init__.nd rfl (.inr rfl) (pe_lc (own := [("form", 9)]) (g := gName 9) (tt := tYes) (te := tFld K (tVar 9) "point") (by rfl) sc_Net___init__.nd (pi_list (pv 1)) (blkOk_by (own := [("form", 9)]) (N := ["self", "forms", "enters", "rows", "holds", "out", "form_points", "hold_points", "points", "form", "hold"]) (sc := defScope s_Net___init__) (by decide +kernel)) (fun _ _ _ _ _ => by exact (pg_name (i := 9) sc_Net___init__.nd rfl (.inl rfl))) (fun _ _ _ _ _ => by exact pts_nil) (fun _ _ _ _ _ => by exact (pe_fld (pv 9) rfl))))
      (pss_cons (ps_setLc (i := 7) (own := [("hold", 10)]) (g := gName 10) (tt := tYes) (te := (tOp (rIxL K) (tVar 6) (tOp (rIxT K) (tVar 10) (tC (.int 0))))) (by rfl) sc_Net___init__.nd rfl rfl (sw_true rfl rfl rfl (by decide +kernel)) (pi_list (pv 4)) (blkOk_by (own := [("hold", 10)]) (N := ["self", "forms", "enters", "rows", "holds", "out", "form_points", "hold_points", "points", "form", "hold"]) (sc := defScope s_Net___init__) (by decide +kernel)) (fun _ _ _ _ _ => by exact (pg_name (i := 10) sc_Net___init__.nd rfl (.inl rfl))) (fun _ _ _ _ _ => by exact pts_nil) (fun _ _ _ _ _ => by exact (pe_ix ix_list (pv 6) (pe_ix ix_tup (pv 10) pe_int (fun _ _ => rfl)) (fun _ _ => rfl))))
      (pss_cons (ps_set (i := 8) sc_Net___init__.nd rfl (.inl rfl) (pe_cal c_checked_points hr (pa_cons (pv 3) (pa_cons (pe_tup (pa_cons (pe_ix ix_list (pv 6) (pv 2) (fun _ _ => rfl)) (pa_cons (pv 7) (pa_cons (pv 6) pa_nil)))) pa_nil))))
      (pss_cons (ps_expr (pe_cal c_check_links hr (pa_cons (pv 4) (pa_cons (pv 3) pa_nil))))
      (pss_cons (ps_if (pt_not (pt_val (pe_cal c_is_place hr (pa_cons (pv 5) (pa_cons (pe_callB call_len_seq (by rfl) z.len PySem.boot_len (pa_cons (pv 3) pa_nil)) pa_nil))))) (pss_one ps_never) pss_nil)
      (pss_cons (ps_fld (pv 0) (pe_callTy call_list_of (by rfl) z.list (by decide +kernel) (pa_cons (pv 1) pa_nil)) rfl)
      (pss_cons (ps_fld (pv 0) (pv 2) rfl)
      (pss_cons (ps_fld (pv 0) (pe_callTy call_list_of (by rfl) z.list (by decide +kernel) (pa_cons (pv 3) pa_nil)) rfl)
      (pss_cons (ps_fld (pv 0) (pe_callTy call_list_of (by rfl) z.list (by decide +kernel) (pa_cons (pv 4) pa_nil)) rfl)
      (pss_cons (ps_fld (pv 0) (pv 5) rfl)
      (pss_one (ps_fld (pv 0) (pv 8) rfl))))))))))))))), ?_⟩
    have lf := hfs.len
    have lr := hrs.len
    have lh := hhs.len
    rw [List.length_map] at lr lh
    have en0 := ok.en
    have out0 := ok.out
    refine ⟨_, rfl, fl, fv, n.fs, rfl, hf, hfs, ok.f1, ok.f2, fun H1 s1 => ?_⟩
    refine ⟨_, rfl, _, rfl, fl, _, rfl, .inl (SqL.of (s1 _ _ hf)), _, _, rfl, by omega, by omega, _, rfl, iteF ?_⟩
    refine ⟨_, rfl, _, rfl, hl, fl, hv, fv, n.fs, n.holds, rfl, s1 _ _ hha, hhs.same s1, s1 _ _ hf, hfs.same s1, ok.h2, fun h hm => ⟨(ok.ho h hm).1, (ok.ho h hm).2.1⟩, fun H2 s2 => ?_⟩
    have S2 := s1.trans s2
    refine ⟨_, rfl, fl, rfl, ⟨_, SqL.of (S2 _ _ hf)⟩, fun Da hD => ?_⟩
    refine lc_it (walk_list (K := K) (a := fl) (xs := fv)) (fun i H4 => Same H2 H4 ∧ H4 Da = some (.lst (((n.fs.take i).map (·.pt)).map V.int))) ⟨same_new hD, upd_same⟩ (fun i H4 hi hP => SqL.of (hP.1 _ _ (S2 _ _ hf))) (fun i x' H4 H5 hi hP hy => ?_) (fun H3 hP => ?_)
    · obtain ⟨s4, hD4⟩ := hP
      obtain ⟨rfl, hx⟩ := hy
      obtain ⟨fa, fm, rfl, efm, hfa⟩ := hfs.get hx
      obtain ⟨dxf, hof⟩ := (FormAt.same hfa (S2.trans s4)).ob
      refine ⟨rfl, _, rfl, fa, C, dxf, _, _, rfl, hof, T.cl, T.nP, fl_p, _, hD4, ?_, fun b' o' e' => ?_, ?_⟩
      · rw [List.length_map, List.length_map, List.length_take]
        exact sl_lt (by have := ok.f2; omega)
      · rw [upd_ne (ne_of_none e' hD)]
        exact s4 _ _ e'
      · rw [upd_same, List.take_add_one, efm, List.map_append, List.map_append]
        rfl
    obtain ⟨s3, hDa⟩ := hP
    rw [lf, List.take_length] at hDa
    have S3 := S2.trans s3
    have lfp : (n.fs.map (·.pt)).length = n.fs.length := List.length_map ..
    refine ⟨_, rfl, hl, rfl, ⟨_, SqL.of (S3 _ _ hha)⟩, fun Db hDb => ?_⟩
    refine lc_it (walk_list (K := K) (a := hl) (xs := hv)) (fun i H4 => Same H3 H4 ∧ H4 Db = some (.lst (((n.holds.take i).map fun h => fpt n.fs h.k).map V.int))) ⟨same_new hDb, upd_same⟩ (fun i H4 hi hP => SqL.of (hP.1 _ _ (S3 _ _ hha))) (fun i x' H4 H5 hi hP hy => ?_) (fun H4 hP => ?_)
    · obtain ⟨s4, hD4⟩ := hP
      obtain ⟨rfl, hx⟩ := hy
      obtain ⟨ha, xs, rfl, exs, hha'⟩ := hhs.get hx
      rw [List.getElem?_map] at exs
      obtain ⟨hh, eh, rfl⟩ := Option.map_eq_some_iff.mp exs
      have kl := (ok.ho hh (List.mem_of_getElem? eh)).1
      refine ⟨rfl, _, rfl, _, rfl, ha, _, 0, .int hh.k, rfl, rfl, SqT.of ((S3.trans s4) _ _ hha'), a0, Da, _, _, _, rfl, rfl, SqL.of (s4 _ _ hDa), ints_at (by omega), _, hD4, ?_, fun b' o' e' => ?_, ?_⟩
      · rw [List.length_map, List.length_map, List.length_take]
        exact sl_lt (by have := ok.h2; omega)
      · rw [upd_ne (ne_of_none e' hDb)]
        exact s4 _ _ e'
      · rw [upd_same, List.take_add_one, eh, List.map_append, List.map_append]
        rfl
    obtain ⟨s4, hDb'⟩ := hP
    rw [lh, List.take_length] at hDb'
    have S4 := S3.trans s4
    refine ⟨_, rfl, _, rfl, _, rfl, Da, _, _, _, rfl, rfl, SqL.of (s4 _ _ hDa), ints_at (by omega), _, rfl, _, rfl, (by show 3 ≤ sizeLine; decide), fun gv hgv => ?_⟩
    generalize hG : upd _ gv _ = G5
    obtain ⟨s5, h_gv⟩ := upd_gen hG hgv
    have S5 := S4.trans s5
    have lhp : (hpts n).length = n.holds.length := List.length_map ..
    refine ⟨rl, gv, rv, n.rows, fpt n.fs n.en, hpts n, n.fs.map FormP.pt, rfl, S5 _ _ hra, hrs.same S5, ⟨Db, Da, h_gv, s5 _ _ hDb', s5 _ _ (s4 _ _ hDa)⟩, ok.r1, ok.r2, fun i r e => by rw [lhp, lfp]; exact ok.ro i r e, ok.po, fun pl H6 s6 hpl h_pl => ?_⟩
    have S6 := S5.trans s6
    refine ⟨_, rfl, _, rfl, hl, rl, hv, rv, n.holds, n.rows, rfl, S6 _ _ hha, hhs.same S6, S6 _ _ hra, hrs.same S6, fun h hm => (ok.ho h hm).2.2, fun H7 s7 => ?_⟩
    have S7 := S6.trans s7
    replace h_pl := s7 _ _ h_pl
    refine ⟨_, rfl, _, rfl, rl, _, rfl, .inl (SqL.of (S7 _ _ hra)), _, _, rfl, by omega, by omega, _, rfl, iteF ?_⟩
    have hp0 := hp
    have n_pl : pl ≠ p := (ne_of_none (S5 _ _ hp) hpl).symm
    have nfl : fl ≠ p := ne_of hf hp (fun z => nomatch z)
    have nrl : rl ≠ p := ne_of hra hp (fun z => nomatch z)
    have nhl : hl ≠ p := ne_of hha hp (fun z => nomatch z)
    have B : SameBut p H H7 := .of S7
    replace hp := S7 _ _ hp
    clear s1 s2 s3 s4 s5 s6 s7 S2 S3 S4 S5 S6 S7 hDa hDb' h_gv hG hpl hD hDb hgv
    refine ⟨_, rfl, fl, _, rfl, .inl (SqL.of (B _ _ nfl hf)), fun f2 hf2 => ?_⟩
    have n_f2 : f2 ≠ p := (ne_of_none hp hf2).symm
    generalize hG : upd _ f2 _ = K1
    obtain ⟨s, h_f2⟩ := upd_gen hG hf2
    replace B := B.trans (.of s)
    replace hp := s _ _ hp
    replace h_pl := s _ _ h_pl
    clear hG s
    refine ⟨_, rfl, p, CN, dx, _, rfl, hp, TN.cl, TN.n_form_list, (by show 0 < 1000; decide), ?_⟩
    generalize hG : upd _ p _ = K2
    obtain ⟨s, hp'⟩ := upd_but hG
    replace B := B.trans s
    clear hp
    have hp := hp'
    clear hp'
    rw [nf0] at hp
    replace h_pl := s _ _ n_pl h_pl
    replace h_f2 := s _ _ n_f2 h_f2
    clear hG s
    refine ⟨_, rfl, _, rfl, p, CN, dx, _, rfl, hp, TN.cl, TN.n_enters_at, (by show 1 < 1000; decide), ?_⟩
    generalize hG : upd _ p _ = K3
    obtain ⟨s, hp'⟩ := upd_but hG
    replace B := B.trans s
    clear hp
    have hp := hp'
    clear hp'
    rw [nf1] at hp
    replace h_pl := s _ _ n_pl h_pl
    replace h_f2 := s _ _ n_f2 h_f2
    clear hG s
    refine ⟨_, rfl, rl, _, rfl, .inl (SqL.of (B _ _ nrl hra)), fun r2 hr2 => ?_⟩
    have n_r2 : r2 ≠ p := (ne_of_none hp hr2).symm
    generalize hG : upd _ r2 _ = K4
    obtain ⟨s, h_r2⟩ := upd_gen hG hr2
    replace B := B.trans (.of s)
    replace hp := s _ _ hp
    replace h_pl := s _ _ h_pl
    replace h_f2 := s _ _ h_f2
    clear hG s
    refine ⟨_, rfl, p, CN, dx, _, rfl, hp, TN.cl, TN.n_row_list, (by show 2 < 1000; decide), ?_⟩
    generalize hG : upd _ p _ = K5
    obtain ⟨s, hp'⟩ := upd_but hG
    replace B := B.trans s
    clear hp
    have hp := hp'
    clear hp'
    rw [nf2] at hp
    replace h_pl := s _ _ n_pl h_pl
    replace h_f2 := s _ _ n_f2 h_f2
    replace h_r2 := s _ _ n_r2 h_r2
    clear hG s
    refine ⟨_, rfl, hl, _, rfl, .inl (SqL.of (B _ _ nhl hha)), fun h2 hh2 => ?_⟩
    have n_h2 : h2 ≠ p := (ne_of_none hp hh2).symm
    generalize hG : upd _ h2 _ = K6
    obtain ⟨s, h_h2⟩ := upd_gen hG hh2
    replace B := B.trans (.of s)
    replace hp := s _ _ hp
    replace h_pl := s _ _ h_pl
    replace h_f2 := s _ _ h_f2
    replace h_r2 := s _ _ h_r2
    clear hG s
    refine ⟨_, rfl, p, CN, dx, _, rfl, hp, TN.cl, TN.n_hold_list, (by show 3 < 1000; decide), ?_⟩
    generalize hG : upd _ p _ = K7
    obtain ⟨s, hp'⟩ := upd_but hG
    replace B := B.trans s
    clear hp
    have hp := hp'
    clear hp'
    rw [nf3] at hp
    replace h_pl := s _ _ n_pl h_pl
    replace h_f2 := s _ _ n_f2 h_f2
    replace h_r2 := s _ _ n_r2 h_r2
    replace h_h2 := s _ _ n_h2 h_h2
    clear hG s
    refine ⟨_, rfl, _, rfl, p, CN, dx, _, rfl, hp, TN.cl, TN.n_out_at, (by show 4 < 1000; decide), ?_⟩
    generalize hG : upd _ p _ = K8
    obtain ⟨s, hp'⟩ := upd_but hG
    replace B := B.trans s
    clear hp
    have hp := hp'
    clear hp'
    rw [nf4] at hp
    replace h_pl := s _ _ n_pl h_pl
    replace h_f2 := s _ _ n_f2 h_f2
    replace h_r2 := s _ _ n_r2 h_r2
    replace h_h2 := s _ _ n_h2 h_h2
    clear hG s
    refine ⟨_, rfl, _, rfl, p, CN, dx, _, rfl, hp, TN.cl, TN.n_point_list, (by show 5 < 1000; decide), ?_⟩
    generalize hG : upd _ p _ = K9
    obtain ⟨s, hp'⟩ := upd_but hG
    replace B := B.trans s
    clear hp
    have hp := hp'
    clear hp'
    rw [nf5] at hp
    replace h_pl := s _ _ n_pl h_pl
    replace h_f2 := s _ _ n_f2 h_f2
    replace h_r2 := s _ _ n_r2 h_r2
    replace h_h2 := s _ _ n_h2 h_h2
    clear hG s
    exact q _ ⟨ok, dx, f2, r2, h2, pl, fv, rv, hv, hp, h_f2, FsAt.butI hfs B hp0, h_r2, hrs.mono (fun a xs e => B _ _ (ne_of e hp0 (fun z => nomatch z)) e), h_h2, hhs.mono (fun a xs e => B _ _ (ne_of e hp0 (fun z => nomatch z)) e), h_pl⟩ (fun b o nb e => B b o nb e)
end
end E1

namespace E1
open PySem PySem.Spec PyProof.Rows L2
/-! ### zip of a list and a tuple -/
def ItzM (K : PySem.W.Frag) (a b : Addr) : It where
  go i H := ∃ (xs ys : List V) (x y : V), (SqL K H a xs ∧ xs[i]? = some x) ∧ SqT K H b ys ∧ ys[i]? = some y
  yld i H v H' := ∃ T x y, (v = .ref T ∧ H T = none ∧ H' = upd H T (.tup [x, y])) ∧ (∀ xs, SqL K H a xs → xs[i]? = some x) ∧ ∀ ys, SqT K H b ys → ys[i]? = some y
  stop i H := ∃ xs ys : List V, (SqL K H a xs ∧ SqT K H b ys) ∧ (i = xs.length ∨ i = ys.length) ∧ i ≤ xs.length ∧ i ≤ ys.length
/-- the five cells of such a zip -/
structure ZpM (h : Heap) (z TI TO i1 i2 a b : Addr) (i : Nat) : Prop where
  zip : IsZip h z TI TO .none
  ti : IsPair h TI (.ref i1) (.ref i2)
  to : ∃ x y, IsPair h TO x y
  one : h.IsListIter i1 a i
  two : h.IsTupleIter i2 b i
theorem ZpM.cells {h : Heap} {z TI TO i1 i2 a b : Addr} {i : Nat} (s : ZpM h z TI TO i1 i2 a b i) : ∀ c ∈ [z, TI, TO, i1, i2], ∃ o, h.get? c = some o ∧ ∀ v, o.data ≠ .cell v := fun c hc => by
  obtain ⟨o1, e1, _, d1⟩ := s.one
  obtain ⟨o2, e2, _, d2⟩ := s.two
  obtain ⟨x, y, e3⟩ := s.to
  simp only [List.mem_cons, List.not_mem_nil, or_false] at hc
  rcases hc with rfl | rfl | rfl | rfl | rfl
  · exact ⟨_, s.zip, fun _ n => nomatch n⟩
  · exact ⟨_, s.ti, fun _ n => nomatch n⟩
  · exact ⟨_, e3, fun _ n => nomatch n⟩
  · exact ⟨o1, e1, fun _ n => nomatch d1.symm.trans n⟩
  · exact ⟨o2, e2, fun _ n => nomatch d2.symm.trans n⟩
theorem ZpM.sep {z TI TO i1 i2 a b : Addr} (D : ZipApart z TI TO i1 i2 a b) : ZipSep2 z TI TO i1 i2 [i1, a] [i2, b] := by
  constructor <;> first | exact D.TIz | exact D.TOz | exact D.TITO | exact D.TIi1 | exact D.TIi2 | skip
  all_goals simp only [List.mem_cons, List.not_mem_nil, or_false, true_or, not_or]
  · exact ⟨D.i1z.symm, D.l1z.symm⟩
  · exact ⟨D.TOi1, D.l1TO.symm⟩
  · exact ⟨D.i2z.symm, D.l2z.symm⟩
  · exact ⟨D.TOi2, D.l2TO.symm⟩
  · exact ⟨D.i12, D.l2i1.symm⟩
  · exact ⟨D.i12.symm, D.l1i2.symm⟩
theorem turn_zipM {P : Program} {w : World} {K : PySem.W.Frag} {elts : List Expr} {kk : Nat} {tpos : Pos} {a b z TI TO i1 i2 : Addr} (D : ZipApart z TI TO i1 i2 a b) : Turn P w K (.Tuple elts kk tpos) (ItzM K a b) [z, TI, TO, i1, i2] z (fun i h => ZpM h z TI TO i1 i2 a b i) := by
  have sp := ZpM.sep D
  refine ⟨List.mem_cons_self .., fun i h st => st.cells, fun i h h' st k => ?_, fun X hP hw hK hc i pins s σ H E I hf st hg => ?_, fun X hP hw hK hc i pins s σ H E I hf st hg => ?_, fun A i s Q E st h => wpAny_pyIter_zip st.zip h⟩
  · obtain ⟨x, y, e⟩ := st.to
    exact ⟨k z (by simp) _ st.zip, k TI (by simp) _ st.ti, ⟨x, y, k TO (by simp) _ e⟩, st.one.at fun o => k i1 (by simp) o, st.two.at fun o => k i2 (by simp) o⟩
  · subst hP hw hK
    obtain ⟨xs, ys, x, y, ⟨qx, ex⟩, qy, ey⟩ := hg
    obtain ⟨l1, rv1, p1, _⟩ := I.list qx
    obtain ⟨l2, rv2, p2, _⟩ := I.tuple qy
    obtain ⟨u1, eu1, ru1⟩ := rv1.get ex
    obtain ⟨u2, eu2, ru2⟩ := rv2.get ey
    obtain ⟨t1, t2, e3⟩ := st.to
    have hd : X.A.in1.handled = none := I.ok.hd hc
    have zl : z < s.heap.objs.size := Heap.lt_size st.zip
    have b1 : i < l1.toArray.size := by simpa using (List.getElem?_eq_some_iff.mp eu1).1
    have b2 : i < l2.toArray.size := by simpa using (List.getElem?_eq_some_iff.mp eu2).1
    refine wpAny_pyNext_zipD2_item sp (Draws.list hd i1 a D.l1i1 l1.toArray) (Draws.tuple hd i2 b D.l2i2 l2.toArray) st.zip st.ti e3 ⟨st.one, p1.isList⟩ ⟨st.two, p2⟩ b1 b2 fun v1 v2 h' tk y1 y2 z' to' s1 s2 hT hsz hk => ?_
    have ev1 : v1 = u1 := by
      have q : l1.toArray[i]? = some v1 := y1
      rw [List.getElem?_toArray, eu1] at q
      exact (Option.some.inj q).symm
    have ev2 : v2 = u2 := by
      have q : l2.toArray[i]? = some v2 := y2
      rw [List.getElem?_toArray, eu2] at q
      exact (Option.some.inj q).symm
    subst ev1 ev2
    refine ⟨_, rfl, wpAny_letOwnedTupleGo_zip (s := { s with heap := h', toks := tk }) z' fun g z'' sb => ?_⟩
    have nz : s.heap.objs.size ≠ z := Nat.ne_of_gt zl
    have lay : ObjOk X.prog X.w (upd H s.heap.objs.size (.tup [x, y])) g s.heap.objs.size (.tup [x, y]) := ⟨by show 2 ≤ sizeLine; decide, _, .cons ru1 (.cons ru2 .nil), ⟨_, (sb.2 _ nz).trans hT, rfl, _, rfl⟩⟩
    have far : ∀ c o, c ∉ [z, TI, TO, i1, i2] → s.heap.get? c = some o → g.get? c = some o := fun c o n e => by
      simp only [List.mem_cons, List.not_mem_nil, or_false, not_or] at n
      exact (sb.2 _ n.1).trans (hk c o n.1 n.2.2.1 n.2.2.2.1 n.2.2.2.2 e)
    have J : Inv X pins σ (upd H s.heap.objs.size (.tup [x, y])) { s with heap := g, toks := tk } := I.turnedNew (t' := tk) (ch := [z, TI, TO, i1, i2]) far hf (Nat.le_refl _) lay
    refine ⟨.ref s.heap.objs.size, _, J, rfl, ⟨_, x, y, ⟨rfl, I.hok.fresh (Nat.le_refl _), rfl⟩, fun l hl => (I.list_inj hl qx).symm ▸ ex, fun l hl => (I.tuple_inj hl qy).symm ▸ ey⟩, ⟨z'', ?_, ⟨_, _, (sb.2 _ D.TOz).trans to'⟩, s1.1.at fun o q => (sb.2 _ D.i1z).trans q, s2.1.at fun o q => (sb.2 _ D.i2z).trans q⟩, fun c hcm => ?_⟩
    · exact (sb.2 _ D.TIz).trans (hk _ _ D.TIz D.TITO D.TIi1 D.TIi2 st.ti)
    · obtain ⟨o, eo, _⟩ := st.cells c hcm
      rw [upd_ne (Nat.ne_of_lt (Heap.lt_size eo))]
      exact (hf c hcm).1
  · subst hP hw hK
    obtain ⟨xs, ys, ⟨qx, qy⟩, en, n1, n2⟩ := hg
    obtain ⟨l1, rv1, p1, _⟩ := I.list qx
    obtain ⟨l2, rv2, p2, _⟩ := I.tuple qy
    have e1 := rv1.length
    have e2 := rv2.length
    obtain ⟨t1, t2, e3⟩ := st.to
    have hd : X.A.in1.handled = none := I.ok.hd hc
    refine wpAny_pyNext_zipD2_end sp (Draws.list hd i1 a D.l1i1 l1.toArray) (Draws.tuple hd i2 b D.l2i2 l2.toArray) st.zip st.ti e3 ⟨st.one, p1.isList⟩ ⟨st.two, p2⟩ (by simp; omega) (by simp; omega) (by simp; omega) fun h' tk hk => ⟨rfl, I.turnedL (t' := tk) (ch := [z, TI, TO, i1, i2]) (fun c o n e => ?_) hf⟩
    simp only [List.mem_cons, List.not_mem_nil, or_false, not_or] at n
    exact hk c o n.1 n.2.2.1 n.2.2.2.1 n.2.2.2.2 e
def iZipM (K : PySem.W.Frag) (ta : TA) : TI := fun σ H R => ta σ H fun vs H1 => ∃ a b xs ys, vs = [.ref a, .ref b] ∧ SqL K H1 a xs ∧ SqT K H1 b ys ∧ R (ItzM K a b) H1
theorem pi_zipM {X : Cx} {e e2 : Expr} {ta : TA} {p pos tpos : Pos} {elts : List Expr} {kk : Nat} (hg : Gl X "zip") (hm : X.mg "zip" = none) (ha : PA X [e, e2] ta)
    (hs : starEach [e, e2] X.env = (false, eval e X.env) :: starEach [e2] X.env := by rfl) (hpl : (backTo pos (starEach [e2] X.env)).any (·.1) = false := by rfl) :
    PI X (.Tuple elts kk tpos) (.Call (.Name "zip" p) [e, e2] [] pos) (iZipM X.K ta) := by
  refine ⟨fun pins s σ H R I h => Call_ (ld_blt I hg hm PyProof.Rows.boot_zip (PyProof.Rows.callWith_type1 (thn (ha.run pos pins s σ H _ I h) fun us t ⟨vs, G, J, rv, q⟩ => ?_) hs hpl))⟩
  obtain ⟨a, b, xs, ys, rfl, qx, qy, q⟩ := q
  obtain ⟨u1, u2, rfl, r1, r2⟩ := vals2 rv
  cases r1
  cases r2
  obtain ⟨l1, _, p1, _⟩ := J.list qx
  obtain ⟨l2, _, p2, _⟩ := J.tuple qy
  obtain ⟨o2, e2', _⟩ := id p2
  refine zip_begins2 (begins_list a l1.toArray) (begins_tuple b l2.toArray) p1.isList p2 fun h' hz hTI hTO h1 h2 hsz hk => wpAny_pyIter_zip hz ?_
  refine ⟨_, [t.heap.objs.size + 4, t.heap.objs.size + 2, t.heap.objs.size + 3, t.heap.objs.size, t.heap.objs.size + 1], _, _, G, rfl, J.kept (t' := t.toks) hk, turn_zipM (PySem.W.ktu_apart t.heap.objs.size a b p1.lt (Heap.lt_size e2')), ⟨hz, hTI, ⟨_, _, hTO⟩, ⟨_, h1, rfl, rfl⟩, ⟨_, h2, rfl, rfl⟩⟩, fun c hc => ?_, q⟩
  have le : t.heap.objs.size ≤ c := by
    simp only [List.mem_cons, List.not_mem_nil, or_false] at hc
    rcases hc with rfl | rfl | rfl | rfl | rfl
    all_goals first | exact Nat.le_refl _ | exact Nat.le_add_right _ _
  exact J.fpOk le (J.hok.fresh le)
theorem walk_zipM {K : PySem.W.Frag} {a b : Addr} {xs ys : List V} (hl : xs.length = ys.length) : Walk (ItzM K a b) xs.length (fun H => SqL K H a xs ∧ SqT K H b ys) (YPair (fun i => xs[i]?) (fun i => ys[i]?)) := by
  refine ⟨fun i H hi q => ⟨xs, ys, xs[i], ys[i]'(by omega), ⟨q.1, by simp [hi]⟩, q.2, by simp [show i < ys.length by omega]⟩, fun H q => ⟨xs, ys, q, .inl rfl, Nat.le_refl _, Nat.le_of_eq hl⟩, fun i H v H' _ q y => ?_⟩
  obtain ⟨T, l, r, ⟨e1, e2, e3⟩, gl, gr⟩ := y
  exact ⟨T, l, r, e1, e2, e3, gl _ q.1, gr _ q.2⟩
end E1

namespace E1
open PySem PySem.Spec PyProof.Rows L2
/-! ### the numbers of a turn -/
instance : Inhabited FormP := ⟨⟨none, 0, .down, false⟩⟩
def frm (fs : List FormP) (k : Nat) : FormP := fs.getD k default
/-- lists grown one by one -/
def accL (g : List Int → Row → Int) (rows : List Row) : List Int := rows.foldl (fun a r => a ++ [g a r]) []
theorem accL_snoc (g : List Int → Row → Int) (rows : List Row) (r : Row) : accL g (rows ++ [r]) = accL g rows ++ [g (accL g rows) r] := by
  unfold accL
  rw [List.foldl_append]
  rfl
theorem accL_len (g : List Int → Row → Int) (rows : List Row) : (accL g rows).length = rows.length := by
  have key : ∀ (rows : List Row) (acc : List Int), (rows.foldl (fun a r => a ++ [g a r]) acc).length = acc.length + rows.length := by
    intro rows
    induction rows with
    | nil => exact fun acc => rfl
    | cons r rs ih =>
      intro acc
      rw [List.foldl_cons, ih]
      simp only [List.length_append, List.length_cons, List.length_nil]
      omega
  have := key rows []
  rw [List.length_nil, Nat.zero_add] at this
  exact this
theorem accL_pre (g : List Int → Row → Int) (a b : List Row) : ∃ t, accL g (a ++ b) = accL g a ++ t := by
  have key : ∀ (b : List Row) (acc : List Int), ∃ t, b.foldl (fun a r => a ++ [g a r]) acc = acc ++ t := by
    intro b
    induction b with
    | nil => exact fun acc => ⟨[], (List.append_nil _).symm⟩
    | cons r rs ih =>
      intro acc
      obtain ⟨t, e⟩ := ih (acc ++ [g acc r])
      exact ⟨[g acc r] ++ t, by rw [List.foldl_cons, e, List.append_assoc]⟩
  obtain ⟨t, e⟩ := key b (accL g a)
  refine ⟨t, ?_⟩
  rw [← e]
  unfold accL
  rw [List.foldl_append]
theorem accL_take (g : List Int → Row → Int) (rows : List Row) (i : Nat) : (accL g rows).take i = accL g (rows.take i) := by
  by_cases h : i ≤ rows.length
  · obtain ⟨t, e⟩ := accL_pre g (rows.take i) (rows.drop i)
    rw [List.take_append_drop] at e
    rw [e, List.take_append_of_le_length (by rw [accL_len, List.length_take]; omega), List.take_of_length_le (by rw [accL_len, List.length_take]; omega)]
  · rw [List.take_of_length_le (by rw [accL_len]; omega), List.take_of_length_le (by omega)]
theorem accL_next {g : List Int → Row → Int} {rows : List Row} {i : Nat} {r : Row} (h : rows[i]? = some r) : accL g (rows.take (i + 1)) = accL g (rows.take i) ++ [g (accL g (rows.take i)) r] := by
  rw [List.take_add_one, h, Option.toList_some, accL_snoc]
theorem accL_at {g : List Int → Row → Int} {rows : List Row} {i : Nat} {r : Row} (h : rows[i]? = some r) : (accL g rows)[i]? = some (g (accL g (rows.take i)) r) := by
  have hl := (List.getElem?_eq_some_iff.mp h).1
  have e := accL_take g rows (i + 1)
  rw [accL_next h] at e
  have e2 := congrArg (fun l => l[i]?) e
  simp only [List.getElem?_take] at e2
  rw [if_pos (Nat.lt_succ_self i)] at e2
  rw [e2, List.getElem?_append_right (by rw [accL_len, List.length_take]; omega), accL_len, List.length_take, Nat.min_eq_left (Nat.le_of_lt hl), Nat.sub_self]
  rfl
theorem ptsOf_acc (en : Int) (hp fp : List Int) (rows : List Row) : ptsOf en hp fp rows = accL (rowPt en hp fp) rows := rfl
/-- a row's number, from the numbers ahead and the points -/
def sumN (pts nums : List Int) (a b : Nat) (sg : Int) : Int :=
  let x := pts.getD a 0; let y := pts.getD b 0; let p := if y > x then y else x
  nums.getD a 0 * 2 ^ (p - x).toNat + sg * (nums.getD b 0 * 2 ^ (p - y).toNat)
def numRow (fs : List FormP) (pts : List Int) (x : Int) (st nums : List Int) : Row → Int
  | .inn => x
  | .old k => st.getD k 0
  | .times f _ a => f * nums.getD a 0
  | .plus a b => sumN pts nums a b 1
  | .less a b => sumN pts nums a b (-1)
  | .move _ a => nums.getD a 0
  | .keep f a => let F := frm fs f; wordF F.w F.st (stepsAt F.pt F.m (nums.getD a 0) (pts.getD a 0))
def NetP.nums (n : NetP) (x : Int) (st : List Int) : List Int := accL (numRow n.fs n.pts x st) n.rows
/-! ### sizes -/
def SzN (i : Nat) : Nat := 70 + 600 * i
theorem abs_mul_lt {x y : Int} {a b : Nat} (hx : x.natAbs < 2 ^ a) (hy : y.natAbs < 2 ^ b) : (x * y).natAbs < 2 ^ (a + b) := by
  rw [Int.natAbs_mul, Nat.pow_add]
  exact Nat.mul_lt_mul'' hx hy
theorem abs_add_lt {x y : Int} {a : Nat} (hx : x.natAbs < 2 ^ a) (hy : y.natAbs < 2 ^ a) : (x + y).natAbs < 2 ^ (a + 1) := by
  rw [Nat.pow_succ]
  generalize 2 ^ a = N at *
  omega
theorem div_abs (t b : Int) : (t / b).natAbs ≤ t.natAbs := Int.natAbs_ediv_le_natAbs _ _
theorem half_abs {t b : Int} (hb : 0 < b) : (fHalf t b).natAbs ≤ t.natAbs + 1 := by
  rw [fHalf_is hb]
  have := div_abs t b
  split <;> omega
theorem rnd_abs (m : Mn) {t b : Int} (hb : 0 < b) : (m.f t b).natAbs ≤ t.natAbs + 2 := by
  have h1 := div_abs t b
  have h2 := div_abs (-t) b
  have h3 := half_abs (t := t) hb
  have h4 := half_abs (t := -t) hb
  cases m with
  | down => show (fDown t b).natAbs ≤ _; unfold fDown; omega
  | up => show (fUp t b).natAbs ≤ _; unfold fUp; omega
  | inn => show (fIn t b).natAbs ≤ _; unfold fIn fDown fUp; split <;> omega
  | out => show (fOut t b).natAbs ≤ _; unfold fOut fDown fUp; split <;> omega
  | half => show (fHalf t b).natAbs ≤ _; omega
  | even => show (fEven t b).natAbs ≤ _; unfold fEven; split <;> omega
  | far => show (fFar t b).natAbs ≤ _; unfold fFar; split <;> omega
theorem steps_lt {pt p n : Int} {m : Mn} {a : Nat} (hn : n.natAbs < 2 ^ a) (h0 : -64 ≤ pt) (h1 : pt ≤ 64) (p0 : -200 ≤ p) (p1 : p ≤ 200) : (stepsAt pt m n p).natAbs < 2 ^ (a + 300) := by
  unfold stepsAt
  split
  · refine Nat.lt_of_lt_of_le (abs_mul_lt hn (two_pow_lt (k := (pt - p).toNat) (n := 299) (by omega))) (Nat.pow_le_pow_right (by decide) (by omega))
  · have := rnd_abs m (t := n) (two_pow_pos (p - pt).toNat)
    have e : 2 ^ (a + 300) = 2 ^ a * 2 ^ 300 := Nat.pow_add ..
    have one : 0 < 2 ^ a := Nat.pow_pos (by decide)
    have big : 4 ≤ 2 ^ 300 := by decide
    have : 2 ^ a * 4 ≤ 2 ^ a * 2 ^ 300 := Nat.mul_le_mul_left _ big
    omega
theorem two_lt64 {y : Int} (h0 : 2 ≤ y) (h1 : y ≤ 64) : (two y).natAbs ≤ 2 ^ 64 := by
  unfold two
  rw [Int.natAbs_pow]
  exact Nat.pow_le_pow_right (by decide) (by omega)
theorem word_abs (w : Option Int) (st : Bool) (n : Int) (hw : WOk w) : (wordF w st n).natAbs ≤ n.natAbs ∨ (wordF w st n).natAbs < 2 ^ 70 := by
  unfold wordF
  cases w with
  | none => exact .inl (Nat.le_refl _)
  | some y =>
    obtain ⟨y0, y1⟩ := hw y rfl
    have t1 : (two (y - 1)).natAbs ≤ 2 ^ 64 := by
      unfold two
      rw [Int.natAbs_pow]
      exact Nat.pow_le_pow_right (by decide) (by omega)
    have t2 := two_lt64 y0 y1
    have p1 := two_pos (y - 1)
    have p2 := two_pos y
    have b1 : (2 : Nat) ^ 70 = 2 ^ 64 * 64 := by decide
    have m0 := Int.emod_nonneg (n - lst y) (show two y ≠ 0 by omega)
    have m1 := Int.emod_lt_of_pos (n - lst y) p2
    by_cases h : inR (some y) n = true
    · left
      show (if inR (some y) n = true then n else if st = true then (if n < 0 then lst y else grt y) else (n - lst y) % two y + lst y).natAbs ≤ n.natAbs
      rw [if_pos h]
      exact Nat.le_refl _
    · right
      rw [b1]
      show (if inR (some y) n = true then n else if st = true then (if n < 0 then lst y else grt y) else (n - lst y) % two y + lst y).natAbs < _
      rw [if_neg h]
      unfold lst grt at *
      generalize (2 : Nat) ^ 64 = N at *
      generalize two (y - 1) = u at *
      generalize two y = v at *
      generalize (n - -u) % v = r at *
      split
      · split <;> omega
      · omega
structure NumSm (n : NetP) (x : Int) (st : List Int) : Prop where
  x : x.natAbs < 2 ^ 70
  st : ∀ k ∈ st, k.natAbs < 2 ^ 70
theorem getD_lt {l : List Int} {N i : Nat} (h : ∀ k ∈ l, k.natAbs < N) (hN : 0 < N) : (l.getD i 0).natAbs < N := by
  rw [List.getD_eq_getElem?_getD]
  cases e : l[i]? with
  | none => exact hN
  | some k => exact h k (List.mem_of_getElem? e)
theorem num_lt {n : NetP} (ok : NetOk n) {x : Int} {st : List Int} (ko : NumSm n x st) : ∀ i, i ≤ n.rows.length → ∀ k ∈ accL (numRow n.fs n.pts x st) (n.rows.take i), k.natAbs < 2 ^ SzN i := by
  intro i
  induction i with
  | zero => intro _ k hk; cases hk
  | succ i ih =>
    intro hi k hk
    obtain ⟨r, er⟩ : ∃ r, n.rows[i]? = some r := ⟨_, List.getElem?_eq_getElem (by omega)⟩
    rw [accL_next er] at hk
    have ih' := ih (by omega)
    have lp : 0 < 2 ^ SzN i := Nat.pow_pos (by decide)
    have wide : ∀ {y a : Nat}, y < 2 ^ a → a ≤ SzN (i + 1) → y < 2 ^ SzN (i + 1) := fun h l => up h l
    have sz : SzN (i + 1) = SzN i + 600 := rfl
    have s70 : 70 ≤ SzN i := Nat.le_add_right _ _
    rcases List.mem_append.mp hk with hk | hk
    · exact wide (ih' k hk) (by omega)
    rw [List.mem_singleton.mp hk]
    have at' : ∀ a, ((accL (numRow n.fs n.pts x st) (n.rows.take i)).getD a 0).natAbs < 2 ^ SzN i := fun a => getD_lt ih' lp
    have pp : ∀ a, -200 ≤ n.pts.getD a 0 ∧ n.pts.getD a 0 ≤ 200 := fun a => by
      rw [List.getD_eq_getElem?_getD]
      cases e : n.pts[a]? with
      | none => exact ⟨by decide, by decide⟩
      | some k => exact ok.po k (List.mem_of_getElem? e)
    have sums : ∀ a b sg, (sg = 1 ∨ sg = -1) → (sumN n.pts (accL (numRow n.fs n.pts x st) (n.rows.take i)) a b sg).natAbs < 2 ^ SzN (i + 1) := fun a b sg hs => by
      obtain ⟨a0, a1⟩ := pp a
      obtain ⟨b0, b1⟩ := pp b
      unfold sumN
      have k1 : ∀ c, ((if n.pts.getD b 0 > n.pts.getD a 0 then n.pts.getD b 0 else n.pts.getD a 0) - n.pts.getD c 0).toNat < 401 := fun c => by
        obtain ⟨c0, c1⟩ := pp c
        split <;> omega
      have x1 := abs_mul_lt (at' a) (two_pow_lt (k1 a))
      have x2 := abs_mul_lt (at' b) (two_pow_lt (k1 b))
      refine wide (abs_add_lt x1 ?_) (by omega)
      rcases hs with rfl | rfl
      · rw [Int.one_mul]
        exact x2
      · rw [Int.neg_mul, Int.one_mul, Int.natAbs_neg]
        exact x2
    have ro := ok.ro i r er
    match r, ro with
    | .inn, _ => exact wide ko.x (by omega)
    | .old k, _ => exact wide (getD_lt ko.st (by decide)) (by omega)
    | .times f m a, h => exact wide (abs_mul_lt (show f.natAbs < 2 ^ 63 from h.1) (at' a)) (by omega)
    | .plus a b, _ => exact sums a b 1 (.inl rfl)
    | .less a b, _ => exact sums a b (-1) (.inr rfl)
    | .move m a, _ => exact wide (at' a) (by omega)
    | .keep f a, h =>
      obtain ⟨p0, p1⟩ := pp a
      have fo : (frm n.fs f).Ok := by
        have e : frm n.fs f = n.fs[f]'h.1 := by
          unfold frm
          rw [List.getD_eq_getElem?_getD, List.getElem?_eq_getElem h.1]
          rfl
        rw [e]
        exact ok.fo _ (List.getElem_mem _)
      have s1 := steps_lt (m := (frm n.fs f).m) (at' a) fo.p0 fo.p1 p0 p1
      rcases word_abs (frm n.fs f).w (frm n.fs f).st (stepsAt (frm n.fs f).pt (frm n.fs f).m ((accL (numRow n.fs n.pts x st) (n.rows.take i)).getD a 0) (n.pts.getD a 0)) fo.wo with h | h
      · exact wide (Nat.lt_of_le_of_lt h s1) (by omega)
      · exact wide h (by omega)

/-- all numbers of a turn are of a size that can be reckoned with -/
def NumOk (n : NetP) (x : Int) (st : List Int) : Prop := ∀ k ∈ n.nums x st, k.natAbs < 2 ^ 900000
theorem NumOk.pre {n : NetP} {x : Int} {st : List Int} (h : NumOk n x st) {i : Nat} {k : Int} (hk : k ∈ accL (numRow n.fs n.pts x st) (n.rows.take i)) : k.natAbs < 2 ^ 900000 := by
  rw [← accL_take] at hk
  exact h k (List.mem_of_mem_take hk)
def Row.small : Row → Prop
  | .times f _ _ => f.natAbs ≤ 9
  | _ => True
/-- a net whose numbers grow slowly -/
structure Calm (n : NetP) : Prop where
  rs : ∀ r ∈ n.rows, r.small
  ps : ∀ p ∈ n.pts, -48 ≤ p ∧ p ≤ 48
  fs : ∀ f ∈ n.fs, -7 ≤ f.pt ∧ f.pt ≤ 7
  ln : n.rows.length ≤ 27
def Mild (n : NetP) : Prop := (∀ f ∈ n.fs, f.w ≠ none) ∨ Calm n
theorem steps_lt2 {pt p n : Int} {m : Mn} {a : Nat} (hn : n.natAbs < 2 ^ a) (h0 : -7 ≤ pt) (h1 : pt ≤ 7) (p0 : -48 ≤ p) (p1 : p ≤ 48) : (stepsAt pt m n p).natAbs < 2 ^ (a + 60) := by
  unfold stepsAt
  split
  · refine Nat.lt_of_lt_of_le (abs_mul_lt hn (two_pow_lt (k := (pt - p).toNat) (n := 59) (by omega))) (Nat.pow_le_pow_right (by decide) (by omega))
  · have := rnd_abs m (t := n) (two_pow_pos (p - pt).toNat)
    have e : 2 ^ (a + 60) = 2 ^ a * 2 ^ 60 := Nat.pow_add ..
    have one : 0 < 2 ^ a := Nat.pow_pos (by decide)
    have big : 4 ≤ 2 ^ 60 := by decide
    have : 2 ^ a * 4 ≤ 2 ^ a * 2 ^ 60 := Nat.mul_le_mul_left _ big
    omega
theorem num_calm {n : NetP} (ok : NetOk n) (cm : Calm n) {x : Int} {st : List Int} {s : Nat} (s70 : 70 ≤ s) (hx : x.natAbs < 2 ^ 70) (hst : ∀ k ∈ st, k.natAbs < 2 ^ s) : ∀ i, i ≤ n.rows.length → ∀ k ∈ accL (numRow n.fs n.pts x st) (n.rows.take i), k.natAbs < 2 ^ (s + 100 * i) := by
  intro i
  induction i with
  | zero => intro _ k hk; cases hk
  | succ i ih =>
    intro hi k hk
    obtain ⟨r, er⟩ : ∃ r, n.rows[i]? = some r := ⟨_, List.getElem?_eq_getElem (by omega)⟩
    rw [accL_next er] at hk
    have ih' := ih (by omega)
    have lp : 0 < 2 ^ (s + 100 * i) := Nat.pow_pos (by decide)
    have wide : ∀ {y a : Nat}, y < 2 ^ a → a ≤ s + 100 * (i + 1) → y < 2 ^ (s + 100 * (i + 1)) := fun h l => up h l
    rcases List.mem_append.mp hk with hk | hk
    · exact wide (ih' k hk) (by omega)
    rw [List.mem_singleton.mp hk]
    have at' : ∀ a, ((accL (numRow n.fs n.pts x st) (n.rows.take i)).getD a 0).natAbs < 2 ^ (s + 100 * i) := fun a => getD_lt ih' lp
    have pp : ∀ a, -48 ≤ n.pts.getD a 0 ∧ n.pts.getD a 0 ≤ 48 := fun a => by
      rw [List.getD_eq_getElem?_getD]
      cases e : n.pts[a]? with
      | none => exact ⟨by decide, by decide⟩
      | some k => exact cm.ps k (List.mem_of_getElem? e)
    have sums : ∀ a b sg, (sg = 1 ∨ sg = -1) → (sumN n.pts (accL (numRow n.fs n.pts x st) (n.rows.take i)) a b sg).natAbs < 2 ^ (s + 100 * (i + 1)) := fun a b sg hs => by
      obtain ⟨a0, a1⟩ := pp a
      obtain ⟨b0, b1⟩ := pp b
      unfold sumN
      have k1 : ∀ c, ((if n.pts.getD b 0 > n.pts.getD a 0 then n.pts.getD b 0 else n.pts.getD a 0) - n.pts.getD c 0).toNat < 97 := fun c => by
        obtain ⟨c0, c1⟩ := pp c
        split <;> omega
      have x1 := abs_mul_lt (at' a) (two_pow_lt (k1 a))
      have x2 := abs_mul_lt (at' b) (two_pow_lt (k1 b))
      refine wide (abs_add_lt x1 ?_) (by omega)
      rcases hs with rfl | rfl
      · rw [Int.one_mul]
        exact x2
      · rw [Int.neg_mul, Int.one_mul, Int.natAbs_neg]
        exact x2
    have ro := ok.ro i r er
    have rs := cm.rs r (List.mem_of_getElem? er)
    match r, ro, rs with
    | .inn, _, _ => exact wide hx (by omega)
    | .old k, _, _ => exact wide (getD_lt hst (Nat.pow_pos (by decide))) (by omega)
    | .times f m a, h, rs => exact wide (abs_mul_lt (show f.natAbs < 2 ^ 4 from Nat.lt_of_le_of_lt rs (by decide)) (at' a)) (by omega)
    | .plus a b, _, _ => exact sums a b 1 (.inl rfl)
    | .less a b, _, _ => exact sums a b (-1) (.inr rfl)
    | .move m a, _, _ => exact wide (at' a) (by omega)
    | .keep f a, h, _ =>
      obtain ⟨p0, p1⟩ := pp a
      have e : frm n.fs f = n.fs[f]'h.1 := by
        unfold frm
        rw [List.getD_eq_getElem?_getD, List.getElem?_eq_getElem h.1]
        rfl
      have fo : (frm n.fs f).Ok := by
        rw [e]
        exact ok.fo _ (List.getElem_mem _)
      have ff : -7 ≤ (frm n.fs f).pt ∧ (frm n.fs f).pt ≤ 7 := by
        rw [e]
        exact cm.fs _ (List.getElem_mem _)
      have s1 := steps_lt2 (m := (frm n.fs f).m) (at' a) ff.1 ff.2 p0 p1
      rcases word_abs (frm n.fs f).w (frm n.fs f).st (stepsAt (frm n.fs f).pt (frm n.fs f).m ((accL (numRow n.fs n.pts x st) (n.rows.take i)).getD a 0) (n.pts.getD a 0)) fo.wo with h | h
      · exact wide (Nat.lt_of_le_of_lt h s1) (by omega)
      · exact wide h (by omega)
theorem all_take {n : NetP} {x : Int} {st : List Int} {N : Nat} (h : ∀ k ∈ accL (numRow n.fs n.pts x st) (n.rows.take n.rows.length), k.natAbs < N) : ∀ k ∈ n.nums x st, k.natAbs < N := fun k hk => h k (by
  rw [List.take_length]
  exact hk)
end E1

namespace E1
open PySem PySem.Spec PyProof.Rows L2

def NIs (C CN : Addr) (H : Hp) (p : Addr) (n : NetP) : Prop := NetAt C CN H p n
/-- a method of a net that tells a new list -/
def spFormsM (C CN : Addr) : Sp := fun vs H Q _ => ∃ (p : Addr) (n : NetP), vs = [.ref p] ∧ NetAt C CN H p n ∧ ∀ l fv H', H l = none → Same H H' → H' l = some (.lst fv) → FsAt C H' fv n.fs → Q (.ref l) H'
def spRowsM (C CN : Addr) : Sp := fun vs H Q _ => ∃ (p : Addr) (n : NetP), vs = [.ref p] ∧ NetAt C CN H p n ∧ ∀ l rv H', H l = none → Same H H' → H' l = some (.lst rv) → TsAt H' rv (n.rows.map Row.vs) → Q (.ref l) H'
def spHoldsM (C CN : Addr) : Sp := fun vs H Q _ => ∃ (p : Addr) (n : NetP), vs = [.ref p] ∧ NetAt C CN H p n ∧ ∀ l hv H', H l = none → Same H H' → H' l = some (.lst hv) → TsAt H' hv (n.holds.map Hold.vs) → Q (.ref l) H'
def spPtsM (C CN : Addr) : Sp := fun vs H Q _ => ∃ (p : Addr) (n : NetP), vs = [.ref p] ∧ NetAt C CN H p n ∧ ∀ l H', H l = none → Same H H' → H' l = some (.lst (n.pts.map V.int)) → Q (.ref l) H'
def spEnM (C CN : Addr) : Sp := fun vs H Q _ => ∃ (p : Addr) (n : NetP), vs = [.ref p] ∧ NetAt C CN H p n ∧ Q (.int n.en) H
def spEnterForm (C CN : Addr) : Sp := fun vs H Q _ => ∃ (p : Addr) (n : NetP), vs = [.ref p] ∧ NetAt C CN H p n ∧ ∀ q H', Same H H' → FAt C H' q (frm n.fs n.en) → Q (.ref q) H'
def spSumNum : Sp := fun vs H Q _ => ∃ (ra na pa : Addr) (r : Row) (a b : Nat) (sg : Int) (nums pts : List Int), vs = [.ref ra, .ref na, .ref pa] ∧ H ra = some (.tup r.vs) ∧ ((r = .plus a b ∧ sg = 1) ∨ (r = .less a b ∧ sg = -1)) ∧ H na = some (.lst (nums.map V.int)) ∧ H pa = some (.lst (pts.map V.int)) ∧ a < nums.length ∧ b < nums.length ∧ nums.length ≤ pts.length ∧ (∀ k ∈ nums, k.natAbs < 2 ^ 900000) ∧ (∀ p ∈ pts, -200 ≤ p ∧ p ≤ 200) ∧ Q (.int (sumN pts nums a b sg)) H
def spNumRow (C : Addr) : Sp := fun vs H Q _ => ∃ (ra na fa pa : Addr) (r : Row) (fv : List V) (fs : List FormP) (hc : Nat) (x : Int) (st nums pts : List Int), vs = [.ref ra, .ref na, .ref fa, .ref pa] ∧ H ra = some (.tup r.vs) ∧ r.kd ≠ .inn ∧ r.kd ≠ .old ∧ H na = some (.lst (nums.map V.int)) ∧ H fa = some (.lst fv) ∧ FsAt C H fv fs ∧ H pa = some (.lst (pts.map V.int)) ∧ RowOk hc fs.length nums.length r ∧ nums.length ≤ pts.length ∧ (∀ k ∈ nums, k.natAbs < 2 ^ 900000) ∧ (∀ p ∈ pts, -200 ≤ p ∧ p ≤ 200) ∧
  ∀ H', Same H H' → Q (.int (numRow fs pts x st nums r)) H'
def spSwept (C CN fR : Addr) : Sp := fun vs H Q _ => ∃ (p sa : Addr) (n : NetP) (x : Int) (st : List Int), vs = [.ref p, .int x, .ref sa, .ref fR] ∧ NetAt C CN H p n ∧ H sa = some (.tup (st.map V.int)) ∧ st.length = n.holds.length ∧ NumOk n x st ∧ ∀ l H', H l = none → Same H H' → H' l = some (.lst ((n.nums x st).map V.int)) → Q (.ref l) H'
/-- a state of a net -/
structure StOk (n : NetP) (st : List Int) : Prop where
  len : st.length = n.holds.length
  inr : ∀ (i : Nat) (h : Hold) (k : Int), n.holds[i]? = some h → st[i]? = some k → inR (frm n.fs h.k).w k = true
def spIsState (C CN : Addr) : Sp := fun vs H Q _ => ∃ (p sa : Addr) (n : NetP) (st : List Int), vs = [.ref p, .ref sa] ∧ NetAt C CN H p n ∧ H sa = some (.tup (st.map V.int)) ∧ StOk n st ∧ ∀ H', Same H H' → Q (.bl true) H'
def spCkState (C CN : Addr) : Sp := fun vs H Q _ => ∃ (p sa : Addr) (n : NetP) (st : List Int), vs = [.ref p, .ref sa] ∧ NetAt C CN H p n ∧ H sa = some (.tup (st.map V.int)) ∧ StOk n st ∧ ∀ H', Same H H' → Q .non H'
def spCkWord (C CN : Addr) : Sp := fun vs H Q _ => ∃ (p : Addr) (n : NetP) (x : Int), vs = [.ref p, .int x] ∧ NetAt C CN H p n ∧ inR (frm n.fs n.en).w x = true ∧ ∀ H', Same H H' → Q .non H'
def NetP.behind (n : NetP) (nums : List Int) : List Int := n.holds.map fun h => nums.getD h.l 0
def spBehind (C CN : Addr) : Sp := fun vs H Q _ => ∃ (p na : Addr) (n : NetP) (nums : List Int), vs = [.ref p, .ref na] ∧ NetAt C CN H p n ∧ H na = some (.lst (nums.map V.int)) ∧ nums.length = n.rows.length ∧ ∀ t H', H t = none → Same H H' → H' t = some (.tup ((n.behind nums).map V.int)) → Q (.ref t) H'
/-- what a turn tells: a new tuple of a new list and a new tuple -/
def TurnOut (H : Hp) (Q : VK) (ns st' : List Int) : Prop := ∀ t l s H', Same H H' → H t = none → H l = none → H s = none → H' t = some (.tup [.ref l, .ref s]) → H' l = some (.lst (ns.map V.int)) → H' s = some (.tup (st'.map V.int)) → Q (.ref t) H'
def spTurnOf (C CN : Addr) : Sp := fun vs H Q _ => ∃ (p sa : Addr) (n : NetP) (x : Int) (st : List Int), vs = [.ref p, .ref sa, .int x] ∧ NetAt C CN H p n ∧ H sa = some (.tup (st.map V.int)) ∧ st.length = n.holds.length ∧ NumOk n x st ∧ TurnOut H Q (n.nums x st) (n.behind (n.nums x st))
def spTurned (C CN : Addr) : Sp := fun vs H Q _ => ∃ (p sa : Addr) (n : NetP) (x : Int) (st : List Int), vs = [.ref p, .ref sa, .int x] ∧ NetAt C CN H p n ∧ H sa = some (.tup (st.map V.int)) ∧ StOk n st ∧ inR (frm n.fs n.en).w x = true ∧ NumOk n x st ∧ TurnOut H Q (n.nums x st) (n.behind (n.nums x st))
section
variable {fl : Addr} {en : Int} {rl hl : Addr} {out : Int} {pl : Addr}
theorem fks_ne : ∀ i j : Fin 6, i ≠ j → ((fks[i.val]'i.isLt) == (fks[j.val]'j.isLt)) = false := by decide +kernel
theorem nl_f : (nflds fl en rl hl out pl).lookup ("form_list" : Str) = some (.ref fl) := by
  unfold nflds
  rw [List.lookup_cons, beq_self_eq_true]
theorem nl_e : (nflds fl en rl hl out pl).lookup ("enters_at" : Str) = some (.int en) := by
  unfold nflds
  rw [List.lookup_cons, show (("enters_at" : Str) == "form_list") = false from fks_ne 1 0 (by decide), List.lookup_cons, beq_self_eq_true]
theorem nl_r : (nflds fl en rl hl out pl).lookup ("row_list" : Str) = some (.ref rl) := by
  unfold nflds
  rw [List.lookup_cons, show (("row_list" : Str) == "form_list") = false from fks_ne 2 0 (by decide), List.lookup_cons, show (("row_list" : Str) == "enters_at") = false from fks_ne 2 1 (by decide), List.lookup_cons, beq_self_eq_true]
theorem nl_h : (nflds fl en rl hl out pl).lookup ("hold_list" : Str) = some (.ref hl) := by
  unfold nflds
  rw [List.lookup_cons, show (("hold_list" : Str) == "form_list") = false from fks_ne 3 0 (by decide), List.lookup_cons, show (("hold_list" : Str) == "enters_at") = false from fks_ne 3 1 (by decide), List.lookup_cons, show (("hold_list" : Str) == "row_list") = false from fks_ne 3 2 (by decide), List.lookup_cons, beq_self_eq_true]
theorem nl_o : (nflds fl en rl hl out pl).lookup ("out_at" : Str) = some (.int out) := by
  unfold nflds
  rw [List.lookup_cons, show (("out_at" : Str) == "form_list") = false from fks_ne 4 0 (by decide), List.lookup_cons, show (("out_at" : Str) == "enters_at") = false from fks_ne 4 1 (by decide), List.lookup_cons, show (("out_at" : Str) == "row_list") = false from fks_ne 4 2 (by decide), List.lookup_cons, show (("out_at" : Str) == "hold_list") = false from fks_ne 4 3 (by decide), List.lookup_cons, beq_self_eq_true]
theorem nl_p : (nflds fl en rl hl out pl).lookup ("point_list" : Str) = some (.ref pl) := by
  unfold nflds
  rw [List.lookup_cons, show (("point_list" : Str) == "form_list") = false from fks_ne 5 0 (by decide), List.lookup_cons, show (("point_list" : Str) == "enters_at") = false from fks_ne 5 1 (by decide), List.lookup_cons, show (("point_list" : Str) == "row_list") = false from fks_ne 5 2 (by decide), List.lookup_cons, show (("point_list" : Str) == "hold_list") = false from fks_ne 5 3 (by decide), List.lookup_cons, show (("point_list" : Str) == "out_at") = false from fks_ne 5 4 (by decide), List.lookup_cons, beq_self_eq_true]
theorem nl_no {x : Str} (h : (fks.map fun k => x == k) = [false, false, false, false, false, false]) : (nflds fl en rl hl out pl).lookup x = none := by
  have e : ∀ i : Nat, (fks.map fun k => x == k)[i]? = [false, false, false, false, false, false][i]? := fun i => by rw [h]
  have h0 : (x == ("form_list" : Str)) = false := Option.some.inj (e 0)
  have h1 : (x == ("enters_at" : Str)) = false := Option.some.inj (e 1)
  have h2 : (x == ("row_list" : Str)) = false := Option.some.inj (e 2)
  have h3 : (x == ("hold_list" : Str)) = false := Option.some.inj (e 3)
  have h4 : (x == ("out_at" : Str)) = false := Option.some.inj (e 4)
  have h5 : (x == ("point_list" : Str)) = false := Option.some.inj (e 5)
  unfold nflds
  rw [List.lookup_cons, h0, List.lookup_cons, h1, List.lookup_cons, h2, List.lookup_cons, h3, List.lookup_cons, h4, List.lookup_cons, h5]
  rfl
end
theorem pts_len (n : NetP) : n.pts.length = n.rows.length := ptsOf_len ..
theorem nums_len (n : NetP) (x : Int) (st : List Int) : (n.nums x st).length = n.rows.length := accL_len ..
theorem frm_at {fs : List FormP} {k : Nat} {f : FormP} (h : fs[k]? = some f) : frm fs k = f := by
  unfold frm
  rw [List.getD_eq_getElem?_getD, h]
  rfl
theorem FsAt.frm {C : Addr} {H : Hp} {vs : List V} {fs : List FormP} (h : FsAt C H vs fs) {k : Nat} (hk : k < fs.length) : ∃ p, vs[k]? = some (.ref p) ∧ FAt C H p (frm fs k) := by
  have e := List.getElem?_eq_getElem hk
  obtain ⟨p, a, b⟩ := h.at e
  exact ⟨p, a, by rw [frm_at e]; exact b⟩
theorem num_big {i : Nat} (h : i ≤ 60) {y : Nat} (l : y < 2 ^ SzN i) : y < 2 ^ 900000 := up l (by unfold SzN; omega)
theorem sumN_p (pts nums : List Int) (a b : Nat) : sumN pts nums a b 1 = nums.getD a 0 * 2 ^ ((if pts.getD b 0 > pts.getD a 0 then pts.getD b 0 else pts.getD a 0) - pts.getD a 0).toNat + nums.getD b 0 * 2 ^ ((if pts.getD b 0 > pts.getD a 0 then pts.getD b 0 else pts.getD a 0) - pts.getD b 0).toNat := by
  unfold sumN
  simp only [Int.one_mul]
theorem sumN_l (pts nums : List Int) (a b : Nat) : sumN pts nums a b (-1) = nums.getD a 0 * 2 ^ ((if pts.getD b 0 > pts.getD a 0 then pts.getD b 0 else pts.getD a 0) - pts.getD a 0).toNat - nums.getD b 0 * 2 ^ ((if pts.getD b 0 > pts.getD a 0 then pts.getD b 0 else pts.getD a 0) - pts.getD b 0).toNat := by
  unfold sumN
  simp only [Int.neg_mul, Int.one_mul, Int.sub_eq_add_neg]
theorem FsAt.butL {C a : Addr} {ys : List V} {H H' : Hp} {vs : List V} {fs : List FormP} (h : FsAt C H vs fs) (s : SameBut a H H') (ha : H a = some (.lst ys)) : FsAt C H' vs fs := by
  induction h with
  | nil => exact .nil
  | cons e _ ih =>
    obtain ⟨d, ho⟩ := e.ob
    exact .cons ⟨⟨d, s _ _ (ne_of ho ha (fun z => nomatch z)) ho⟩, e.wo, e.p0, e.p1⟩ ih
theorem kd_ne (a b : Kd7) (h : a ≠ b) : a.s ≠ b.s := by
  revert h
  cases a <;> cases b <;> first | (intro h; exact absurd rfl h) | (intro _; decide +kernel)
theorem kd_s {a b : Kd7} : decide (V.str a.s = V.str b.s) = decide (a.s = b.s) := by
  by_cases h : a.s = b.s
  · rw [h, decide_eq_true rfl, decide_eq_true rfl]
  · rw [decide_eq_false h, decide_eq_false (fun z => h (V.str.inj z))]
section
variable {P : Program} {w : World} {K : PySem.W.Frag} {mg : Str → Option Value} {base : Heap}
theorem sc_Net_forms : FnScope ["self"] ["self"] (defScope s_Net_forms) := ⟨rfl, rfl, rfl, by decide +kernel, rfl, by decide +kernel, by decide +kernel⟩
theorem ok_Net_forms {f : Addr} {fd : FuncData} {k : Nat} {C CN : Addr} (TN : NTxt K mg CN) (F : Fun K "forms" "Net.forms" s_Net_forms f fd) (z : Zs mg) : FnOk P w K mg base CX0 (k + 1) f fd ["self"] (spFormsM C CN) := by
  refine F.ok sc_Net_forms (fun vs H Q E h => ?_) (fun cdv A outer s H vs Q E hr h => ?_)
  · obtain ⟨p, n, rfl, _⟩ := h
    rfl
  · obtain ⟨p, n, rfl, ⟨ok, dx, fl, rl, hl2, pl, fv, rv, hv, b⟩, q⟩ := h
    refine ⟨_, (pss_one (ps_ret (pe_callTy call_list_of (by rfl) z.list (by decide +kernel) (pa_cons (pe_fld (pv 0) rfl) pa_nil)))), ?_⟩
    refine ⟨_, rfl, p, CN, dx, _, _, rfl, b.ob, TN.cl, TN.n_form_list, nl_f, _, _, rfl, .inl (SqL.of b.fa), fun l hl => ?_⟩
    generalize hG : upd _ l _ = G
    obtain ⟨s, h_l⟩ := upd_gen hG hl
    exact q l _ _ hl s h_l (b.fs.same s)
theorem sc_Net_rows : FnScope ["self"] ["self"] (defScope s_Net_rows) := ⟨rfl, rfl, rfl, by decide +kernel, rfl, by decide +kernel, by decide +kernel⟩
theorem ok_Net_rows {f : Addr} {fd : FuncData} {k : Nat} {C CN : Addr} (TN : NTxt K mg CN) (F : Fun K "rows" "Net.rows" s_Net_rows f fd) (z : Zs mg) : FnOk P w K mg base CX0 (k + 1) f fd ["self"] (spRowsM C CN) := by
  refine F.ok sc_Net_rows (fun vs H Q E h => ?_) (fun cdv A outer s H vs Q E hr h => ?_)
  · obtain ⟨p, n, rfl, _⟩ := h
    rfl
  · obtain ⟨p, n, rfl, ⟨ok, dx, fl, rl, hl2, pl, fv, rv, hv, b⟩, q⟩ := h
    refine ⟨_, (pss_one (ps_ret (pe_callTy call_list_of (by rfl) z.list (by decide +kernel) (pa_cons (pe_fld (pv 0) rfl) pa_nil)))), ?_⟩
    refine ⟨_, rfl, p, CN, dx, _, _, rfl, b.ob, TN.cl, TN.n_row_list, nl_r, _, _, rfl, .inl (SqL.of b.ra), fun l hl => ?_⟩
    generalize hG : upd _ l _ = G
    obtain ⟨s, h_l⟩ := upd_gen hG hl
    exact q l _ _ hl s h_l (b.rs.same s)
theorem sc_Net_holds : FnScope ["self"] ["self"] (defScope s_Net_holds) := ⟨rfl, rfl, rfl, by decide +kernel, rfl, by decide +kernel, by decide +kernel⟩
theorem ok_Net_holds {f : Addr} {fd : FuncData} {k : Nat} {C CN : Addr} (TN : NTxt K mg CN) (F : Fun K "holds" "Net.holds" s_Net_holds f fd) (z : Zs mg) : FnOk P w K mg base CX0 (k + 1) f fd ["self"] (spHoldsM C CN) := by
  refine F.ok sc_Net_holds (fun vs H Q E h => ?_) (fun cdv A outer s H vs Q E hr h => ?_)
  · obtain ⟨p, n, rfl, _⟩ := h
    rfl
  · obtain ⟨p, n, rfl, ⟨ok, dx, fl, rl, hl2, pl, fv, rv, hv, b⟩, q⟩ := h
    refine ⟨_, (pss_one (ps_ret (pe_callTy call_list_of (by rfl) z.list (by decide +kernel) (pa_cons (pe_fld (pv 0) rfl) pa_nil)))), ?_⟩
    refine ⟨_, rfl, p, CN, dx, _, _, rfl, b.ob, TN.cl, TN.n_hold_list, nl_h, _, _, rfl, .inl (SqL.of b.ha), fun l hl => ?_⟩
    generalize hG : upd _ l _ = G
    obtain ⟨s, h_l⟩ := upd_gen hG hl
    exact q l _ _ hl s h_l (b.hs.same s)
theorem sc_Net_points : FnScope ["self"] ["self"] (defScope s_Net_points) := ⟨rfl, rfl, rfl, by decide +kernel, rfl, by decide +kernel, by decide +kernel⟩
theorem ok_Net_points {f : Addr} {fd : FuncData} {k : Nat} {C CN : Addr} (TN : NTxt K mg CN) (F : Fun K "points" "Net.points" s_Net_points f fd) (z : Zs mg) : FnOk P w K mg base CX0 (k + 1) f fd ["self"] (spPtsM C CN) := by
  refine F.ok sc_Net_points (fun vs H Q E h => ?_) (fun cdv A outer s H vs Q E hr h => ?_)
  · obtain ⟨p, n, rfl, _⟩ := h
    rfl
  · obtain ⟨p, n, rfl, ⟨ok, dx, fl, rl, hl2, pl, fv, rv, hv, b⟩, q⟩ := h
    refine ⟨_, (pss_one (ps_ret (pe_callTy call_list_of (by rfl) z.list (by decide +kernel) (pa_cons (pe_fld (pv 0) rfl) pa_nil)))), ?_⟩
    refine ⟨_, rfl, p, CN, dx, _, _, rfl, b.ob, TN.cl, TN.n_point_list, nl_p, _, _, rfl, .inl (SqL.of b.pa), fun l hl => ?_⟩
    generalize hG : upd _ l _ = G
    obtain ⟨s, h_l⟩ := upd_gen hG hl
    exact q l _ hl s h_l
theorem sc_Net_enters : FnScope ["self"] ["self"] (defScope s_Net_enters) := ⟨rfl, rfl, rfl, by decide +kernel, rfl, by decide +kernel, by decide +kernel⟩
theorem ok_Net_enters {f : Addr} {fd : FuncData} {k : Nat} {C CN : Addr} (TN : NTxt K mg CN) (F : Fun K "enters" "Net.enters" s_Net_enters f fd) : FnOk P w K mg base CX0 (k + 1) f fd ["self"] (spEnM C CN) := by
  refine F.ok sc_Net_enters (fun vs H Q E h => ?_) (fun cdv A outer s H vs Q E hr h => ?_)
  · obtain ⟨p, n, rfl, _⟩ := h
    rfl
  · obtain ⟨p, n, rfl, ⟨ok, dx, fl, rl, hl2, pl, fv, rv, hv, b⟩, q⟩ := h
    refine ⟨_, (pss_one (ps_ret (pe_fld (pv 0) rfl))), ?_⟩
    exact ⟨_, rfl, p, CN, dx, _, _, rfl, b.ob, TN.cl, TN.n_enters_at, nl_e, q⟩
end
end E1

namespace E1
open PySem PySem.Spec PyProof.Rows L2
section
variable {P : Program} {w : World} {K : PySem.W.Frag} {mg : Str → Option Value} {base : Heap}
theorem sc_enter_form : FnScope ["net"] ["net"] (defScope s_enter_form) := ⟨rfl, rfl, rfl, by decide +kernel, rfl, by decide +kernel, by decide +kernel⟩
theorem ok_enter_form {f : Addr} {fd : FuncData} {C CN : Addr} (TN : NTxt K mg CN) (F : Fun K "enter_form" "enter_form" s_enter_form f fd) (n_forms : CalM P w K mg base 1 CN "forms" ["self"] (spFormsM C CN)) (n_enters : CalM P w K mg base 1 CN "enters" ["self"] (spEnM C CN)) : FnOk P w K mg base CX0 2 f fd ["net"] (spEnterForm C CN) := by
  refine F.ok sc_enter_form (fun vs H Q E h => ?_) (fun cdv A outer s H vs Q E hr h => ?_)
  · obtain ⟨p, n, rfl, _⟩ := h
    rfl
  · obtain ⟨p, n, rfl, hn, q⟩ := h
    refine ⟨_, (pss_one (ps_ret (pe_ix ix_list (pe_calm0 (pv 0) TN.cl n_forms hr) (pe_calm0 (pv 0) TN.cl n_enters hr) (fun _ _ => rfl)))), ?_⟩
    obtain ⟨ok, dx, fl, rl, hl, pl, fv, rv, hv, b⟩ := id hn
    refine ⟨_, rfl, p, dx, _, rfl, b.ob, nl_no (by decide +kernel), p, n, rfl, hn, fun l fv2 H1 hl1 s1 h_l hf => ?_⟩
    obtain ⟨q1, e1, f1⟩ := hf.frm ok.en
    refine ⟨_, rfl, p, dx, _, rfl, s1 _ _ b.ob, nl_no (by decide +kernel), p, n, rfl, hn.same s1, ?_⟩
    exact ⟨l, _, _, .ref q1, rfl, rfl, SqL.of h_l, atI_nat e1, q q1 _ s1 f1⟩
theorem sc_sum_number : FnScope ["row", "numbers", "points", "word", "one", "other", "point", "left", "right"] ["row", "numbers", "points"] (defScope s_sum_number) := ⟨rfl, rfl, rfl, by decide +kernel, rfl, by decide +kernel, by decide +kernel⟩
theorem ok_sum_number {f : Addr} {fd : FuncData} {k : Nat} (F : Fun K "sum_number" "sum_number" s_sum_number f fd) (z : Zs mg) : FnOk P w K mg base CX0 (k + 1) f fd ["row", "numbers", "points"] spSumNum := by
  refine F.ok sc_sum_number (fun vs H Q E h => ?_) (fun cdv A outer s H vs Q E hr h => ?_)
  · obtain ⟨ra, na, pa, r, a, b, sg, nums, pts, rfl, _⟩ := h
    rfl
  · obtain ⟨ra, na, pa, r, a, b, sg, nums, pts, rfl, hra, hr2, hna, hpa, la, lb, lp, hn, hp, q⟩ := h
    refine ⟨_, (pss_cons (ps_asg (pv 0) (pg_tup (by rfl) (pgs_cons (pg_name (i := 3) sc_sum_number.nd rfl (.inl rfl)) (pgs_cons (pg_name (i := 4) sc_sum_number.nd rfl (.inl rfl)) (pgs_cons (pg_name (i := 5) sc_sum_number.nd rfl (.inl rfl)) pgs_nil)))))
      (pss_cons (ps_set (i := 6) sc_sum_number.nd rfl (.inl rfl) (pe_callB (call_max2 rfl) (by rfl) z.max (by decide +kernel) (pa_cons (pe_ix ix_list (pv 2) (pv 4) (fun _ _ => rfl)) (pa_cons (pe_ix ix_list (pv 2) (pv 5) (fun _ _ => rfl)) pa_nil))))
      (pss_cons (ps_set (i := 7) sc_sum_number.nd rfl (.inl rfl) (pe_op op_shlW (pe_ix ix_list (pv 1) (pv 4) (fun _ _ => rfl)) (pe_op op_sub (pv 6) (pe_ix ix_list (pv 2) (pv 4) (fun _ _ => rfl)))))
      (pss_cons (ps_set (i := 8) sc_sum_number.nd rfl (.inl rfl) (pe_op op_shlW (pe_ix ix_list (pv 1) (pv 5) (fun _ _ => rfl)) (pe_op op_sub (pv 6) (pe_ix ix_list (pv 2) (pv 5) (fun _ _ => rfl)))))
      (pss_one (ps_ret (pe_ifExp (pt_cmpR op_eq (pv 3) pe_str (nomark _)) (pe_op op_add (pv 7) (pv 8)) (pe_op op_sub (pv 7) (pv 8))))))))), ?_⟩
    have la' : a < pts.length := by omega
    have lb' : b < pts.length := by omega
    have pp : ∀ c, c < pts.length → -200 ≤ pts.getD c 0 ∧ pts.getD c 0 ≤ 200 := fun c hc => hp _ (by
      rw [List.getD_eq_getElem?_getD, List.getElem?_eq_getElem hc]
      exact List.getElem_mem _)
    obtain ⟨a0, a1⟩ := pp a la'
    obtain ⟨b0, b1⟩ := pp b lb'
    have nn : ∀ c, (nums.getD c 0).natAbs < 2 ^ 900000 := fun c => getD_lt hn (Nat.pow_pos (by decide))
    have sh : ∀ c, c < pts.length → CShl (nums.getD c 0) ((if pts.getD b 0 > pts.getD a 0 then pts.getD b 0 else pts.getD a 0) - pts.getD c 0) ∨ ¬ (c = a ∨ c = b) := fun c hc => by
      by_cases hh : c = a ∨ c = b
      · left
        have e : ((if pts.getD b 0 > pts.getD a 0 then pts.getD b 0 else pts.getD a 0) - pts.getD c 0) = ((((if pts.getD b 0 > pts.getD a 0 then pts.getD b 0 else pts.getD a 0) - pts.getD c 0).toNat : Nat) : Int) := by
          rcases hh with rfl | rfl <;> split <;> omega
        rw [e]
        refine shl_ok (nn c) ?_
        rcases hh with rfl | rfl <;> split <;> omega
      · exact .inr hh
    have sa := (sh a la').resolve_right (fun z => z (.inl rfl))
    have sb := (sh b lb').resolve_right (fun z => z (.inr rfl))
    rcases hr2 with ⟨rfl, rfl⟩ | ⟨rfl, rfl⟩
    · refine ⟨_, rfl, ra, _, rfl, SqT.of hra, rfl, _, _, rfl, _, _, rfl, _, _, rfl, rfl, _, rfl, _, rfl, pa, _, _, _, rfl, rfl, SqL.of hpa, ints_at la', _, rfl, _, rfl, pa, _, _, _, rfl, rfl, SqL.of hpa, ints_at lb', _, _, rfl, _, rfl, _, rfl, na, _, _, _, rfl, rfl, SqL.of hna, ints_at la, _, rfl, _, rfl, _, rfl, pa, _, _, _, rfl, rfl, SqL.of hpa, ints_at la', _, _, rfl, rfl, _, _, rfl, rfl, sa, _, rfl, _, rfl, na, _, _, _, rfl, rfl, SqL.of hna, ints_at lb, _, rfl, _, rfl, _, rfl, pa, _, _, _, rfl, rfl, SqL.of hpa, ints_at lb', _, _, rfl, rfl, _, _, rfl, rfl, sb, _, rfl, rfl, _, rfl, ?_⟩
      refine iteC (d := true) (decide_eq_true rfl) (iteT ⟨_, rfl, _, rfl, _, _, rfl, rfl, ?_⟩)
      rw [sumN_p] at q
      exact q
    · refine ⟨_, rfl, ra, _, rfl, SqT.of hra, rfl, _, _, rfl, _, _, rfl, _, _, rfl, rfl, _, rfl, _, rfl, pa, _, _, _, rfl, rfl, SqL.of hpa, ints_at la', _, rfl, _, rfl, pa, _, _, _, rfl, rfl, SqL.of hpa, ints_at lb', _, _, rfl, _, rfl, _, rfl, na, _, _, _, rfl, rfl, SqL.of hna, ints_at la, _, rfl, _, rfl, _, rfl, pa, _, _, _, rfl, rfl, SqL.of hpa, ints_at la', _, _, rfl, rfl, _, _, rfl, rfl, sa, _, rfl, _, rfl, na, _, _, _, rfl, rfl, SqL.of hna, ints_at lb, _, rfl, _, rfl, _, rfl, pa, _, _, _, rfl, rfl, SqL.of hpa, ints_at lb', _, _, rfl, rfl, _, _, rfl, rfl, sb, _, rfl, rfl, _, rfl, ?_⟩
      refine iteC (d := false) (decide_eq_false (fun z => absurd (V.str.inj z) (by decide +kernel))) (iteF ⟨_, rfl, _, rfl, _, _, rfl, rfl, ?_⟩)
      rw [sumN_l] at q
      exact q
theorem sc_number_of_row : FnScope ["row", "numbers", "forms", "points", "kind"] ["row", "numbers", "forms", "points"] (defScope s_number_of_row) := ⟨rfl, rfl, rfl, by decide +kernel, rfl, by decide +kernel, by decide +kernel⟩
theorem ok_number_of_row {f : Addr} {fd : FuncData} {C : Addr} (T : FTxt K mg C) (F : Fun K "number_of_row" "number_of_row" s_number_of_row f fd) (m_kept_at : CalM P w K mg base 5 C "kept_at" ["self", "number", "point"] (spKeptAt C)) (c_sum_number : Cal P w K mg base 1 "sum_number" ["row", "numbers", "points"] spSumNum) : FnOk P w K mg base CX0 6 f fd ["row", "numbers", "forms", "points"] (spNumRow C) := by
  refine F.ok sc_number_of_row (fun vs H Q E h => ?_) (fun cdv A outer s H vs Q E hr h => ?_)
  · obtain ⟨ra, na, fa, pa, r, fv, fs, hc, x, st, nums, pts, rfl, _⟩ := h
    rfl
  · obtain ⟨ra, na, fa, pa, r, fv, fs, hc, x, st, nums, pts, rfl, hra, ki, ko, hna, hfa, hf, hpa, hok, lp, hn, hp, q⟩ := h
    refine ⟨_, (pss_cons (ps_set (i := 4) sc_number_of_row.nd rfl (.inl rfl) (pe_ix ix_tup (pv 0) pe_int (fun _ _ => rfl)))
      (pss_cons (ps_if (pt_cmpR op_eq (pv 4) pe_str (nomark _)) (pss_one (ps_ret (pe_op op_mul (pe_ix ix_tup (pv 0) pe_int (fun _ _ => rfl)) (pe_ix ix_list (pv 1) (pe_ix ix_tup (pv 0) pe_int (fun _ _ => rfl)) (fun _ _ => rfl))))) pss_nil)
      (pss_cons (ps_if (pt_cmpR op_eq (pv 4) pe_str (nomark _)) (pss_one (ps_ret (pe_ix ix_list (pv 1) (pe_ix ix_tup (pv 0) pe_int (fun _ _ => rfl)) (fun _ _ => rfl)))) pss_nil)
      (pss_cons (ps_if (pt_cmpR op_eq (pv 4) pe_str (nomark _)) (pss_one (ps_ret (pe_ix ix_tup (pe_calm (pe_ix ix_list (pv 2) (pe_ix ix_tup (pv 0) pe_int (fun _ _ => rfl)) (fun _ _ => rfl)) T.cl m_kept_at hr (pa_cons (pe_ix ix_list (pv 1) (pe_ix ix_tup (pv 0) pe_int (fun _ _ => rfl)) (fun _ _ => rfl)) (pa_cons (pe_ix ix_list (pv 3) (pe_ix ix_tup (pv 0) pe_int (fun _ _ => rfl)) (fun _ _ => rfl)) pa_nil))) pe_int (fun _ _ => rfl)))) pss_nil)
      (pss_one (ps_ret (pe_cal c_sum_number hr (pa_cons (pv 0) (pa_cons (pv 1) (pa_cons (pv 3) pa_nil)))))))))), ?_⟩
    have nn : ∀ c, (nums.getD c 0).natAbs < 2 ^ 900000 := fun c => getD_lt hn (Nat.pow_pos (by decide))
    match r, ki, ko, hok, hra, q with
    | .inn, ki, _, _, _, _ => exact absurd rfl ki
    | .old _, _, ko, _, _, _ => exact absurd rfl ko
    | .times f m a, _, _, hok, hra, q =>
      obtain ⟨h1, h2, h3⟩ := hok
      refine ⟨_, rfl, ra, _, 0, .str _, rfl, rfl, SqT.of hra, a0, _, rfl, rfl, _, rfl, iteC (d := true) (decide_eq_true rfl) (iteT ?_)⟩
      exact ⟨_, rfl, ra, _, 1, .int f, rfl, rfl, SqT.of hra, a1, _, rfl, _, rfl, ra, _, 3, .int a, rfl, rfl, SqT.of hra, atI_nat (j := 3) rfl, na, _, _, _, rfl, rfl, SqL.of hna, ints_at h3, _, _, rfl, rfl, .inl ⟨by omega, by omega⟩, q _ (Same.refl _)⟩
    | .move m a, _, _, hok, hra, q =>
      obtain ⟨h1, h2⟩ := hok
      refine ⟨_, rfl, ra, _, 0, .str _, rfl, rfl, SqT.of hra, a0, _, rfl, rfl, _, rfl, iteC (d := false) (decide_eq_false (fun z => absurd (V.str.inj z) (by decide +kernel))) (iteF ⟨_, rfl, rfl, _, rfl, iteC (d := true) (decide_eq_true rfl) (iteT ?_)⟩)⟩
      exact ⟨_, rfl, _, rfl, ra, _, 2, .int a, rfl, rfl, SqT.of hra, a2, na, _, _, _, rfl, rfl, SqL.of hna, ints_at h2, q _ (Same.refl _)⟩
    | .keep f a, _, _, hok, hra, q =>
      obtain ⟨h1, h2⟩ := hok
      obtain ⟨p, ep, fp⟩ := hf.frm h1
      obtain ⟨dx, ho⟩ := fp.ob
      have h3 : a < pts.length := by omega
      obtain ⟨p0, p1⟩ := hp (pts.getD a 0) (by
        rw [List.getD_eq_getElem?_getD, List.getElem?_eq_getElem h3]
        exact List.getElem_mem _)
      refine ⟨_, rfl, ra, _, 0, .str _, rfl, rfl, SqT.of hra, a0, _, rfl, rfl, _, rfl, iteC (d := false) (decide_eq_false (fun z => absurd (V.str.inj z) (by decide +kernel))) (iteF ⟨_, rfl, rfl, _, rfl, iteC (d := false) (decide_eq_false (fun z => absurd (V.str.inj z) (by decide +kernel))) (iteF ⟨_, rfl, rfl, _, rfl, iteC (d := true) (decide_eq_true rfl) (iteT ?_)⟩)⟩)⟩
      refine ⟨_, rfl, _, rfl, ra, _, 1, .int f, rfl, rfl, SqT.of hra, a1, fa, _, _, .ref p, rfl, rfl, SqL.of hfa, atI_nat ep, p, dx, _, rfl, ho, fl_no (by decide +kernel), _, rfl, _, rfl, ra, _, 2, .int a, rfl, rfl, SqT.of hra, a2, na, _, _, _, rfl, rfl, SqL.of hna, ints_at h2, _, rfl, _, rfl, ra, _, 2, .int a, rfl, rfl, SqT.of hra, a2, pa, _, _, _, rfl, rfl, SqL.of hpa, ints_at h3, p, _, _, _, _, _, _, rfl, fp, p0, p1, nn a, fun t H' ht s h_t => ?_⟩
      exact ⟨t, _, 0, _, rfl, rfl, SqT.of h_t, a0, q _ s⟩
    | .plus a b, _, _, hok, hra, q =>
      obtain ⟨h1, h2⟩ := hok
      refine ⟨_, rfl, ra, _, 0, .str _, rfl, rfl, SqT.of hra, a0, _, rfl, rfl, _, rfl, iteC (d := false) (decide_eq_false (fun z => absurd (V.str.inj z) (by decide +kernel))) (iteF ⟨_, rfl, rfl, _, rfl, iteC (d := false) (decide_eq_false (fun z => absurd (V.str.inj z) (by decide +kernel))) (iteF ⟨_, rfl, rfl, _, rfl, iteC (d := false) (decide_eq_false (fun z => absurd (V.str.inj z) (by decide +kernel))) (iteF ?_)⟩)⟩)⟩
      exact ⟨_, rfl, _, rfl, _, rfl, ra, na, pa, .plus a b, a, b, 1, nums, pts, rfl, hra, .inl ⟨rfl, rfl⟩, hna, hpa, h1, h2, lp, hn, hp, q _ (Same.refl _)⟩
    | .less a b, _, _, hok, hra, q =>
      obtain ⟨h1, h2⟩ := hok
      refine ⟨_, rfl, ra, _, 0, .str _, rfl, rfl, SqT.of hra, a0, _, rfl, rfl, _, rfl, iteC (d := false) (decide_eq_false (fun z => absurd (V.str.inj z) (by decide +kernel))) (iteF ⟨_, rfl, rfl, _, rfl, iteC (d := false) (decide_eq_false (fun z => absurd (V.str.inj z) (by decide +kernel))) (iteF ⟨_, rfl, rfl, _, rfl, iteC (d := false) (decide_eq_false (fun z => absurd (V.str.inj z) (by decide +kernel))) (iteF ?_)⟩)⟩)⟩
      exact ⟨_, rfl, _, rfl, _, rfl, ra, na, pa, .less a b, a, b, (-1), nums, pts, rfl, hra, .inr ⟨rfl, rfl⟩, hna, hpa, h1, h2, lp, hn, hp, q _ (Same.refl _)⟩
theorem sc_swept : FnScope ["net", "heard", "held", "rule", "forms", "points", "done", "row"] ["net", "heard", "held", "rule"] (defScope s_swept) := ⟨rfl, rfl, rfl, by decide +kernel, rfl, by decide +kernel, by decide +kernel⟩
theorem ok_swept {f : Addr} {fd : FuncData} {C CN fR : Addr} {fdR : FuncData} (okR : FnOk P w K mg base CX0 6 fR fdR ["row", "numbers", "forms", "points"] (spNumRow C)) (kR : PySem.W.keepIn K (.ref fR) = true) (bR : Binds K fdR ["row", "numbers", "forms", "points"] []) (TN : NTxt K mg CN) (F : Fun K "swept" "swept" s_swept f fd) (n_forms : CalM P w K mg base 1 CN "forms" ["self"] (spFormsM C CN)) (n_points : CalM P w K mg base 1 CN "points" ["self"] (spPtsM C CN)) (n_rows : CalM P w K mg base 1 CN "rows" ["self"] (spRowsM C CN)) : FnOk P w K mg base CX0 7 f fd ["net", "heard", "held", "rule"] (spSwept C CN fR) := by
  refine F.ok sc_swept (fun vs H Q E h => ?_) (fun cdv A outer s H vs Q E hr h => ?_)
  · obtain ⟨p, sa, n, x, st, rfl, _⟩ := h
    rfl
  · obtain ⟨p, sa, n, x, st, rfl, hn, hsa, hls, ko, q⟩ := h
    refine ⟨_, (pss_cons (ps_set (i := 4) sc_swept.nd rfl (.inl rfl) (pe_calm0 (pv 0) TN.cl n_forms hr))
      (pss_cons (ps_set (i := 5) sc_swept.nd rfl (.inl rfl) (pe_calm0 (pv 0) TN.cl n_points hr))
      (pss_cons (ps_set (i := 6) sc_swept.nd rfl (.inl rfl) (pe_lst pa_nil))
      (pss_cons (ps_for PassesOwn.never rfl (pi_list (pe_calm0 (pv 0) TN.cl n_rows hr)) (pg_name (i := 7) sc_swept.nd rfl (.inl rfl)) (pss_one (ps_if (pt_cmpR op_eq (pe_ix ix_tup (pv 7) pe_int (fun _ _ => rfl)) pe_str (nomark _)) (pss_one (ps_expr (pe_bm PySem.F.plainAttrs_list PySem.F.slot_list_append PySem.F.type_list_append mt_append (pv 6) (pa_cons (pv 1) pa_nil)))) (pss_one (ps_if (pt_cmpR op_eq (pe_ix ix_tup (pv 7) pe_int (fun _ _ => rfl)) pe_str (nomark _)) (pss_one (ps_expr (pe_bm PySem.F.plainAttrs_list PySem.F.slot_list_append PySem.F.type_list_append mt_append (pv 6) (pa_cons (pe_ix ix_tup (pv 2) (pe_ix ix_tup (pv 7) pe_int (fun _ _ => rfl)) (fun _ _ => rfl)) pa_nil)))) (pss_one (ps_expr (pe_bm PySem.F.plainAttrs_list PySem.F.slot_list_append PySem.F.type_list_append mt_append (pv 6) (pa_cons (pe_callL (i := 3) okR hr rfl (Or.inl rfl) kR bR .nil pass0 (pa_cons (pv 7) (pa_cons (pv 6) (pa_cons (pv 4) (pa_cons (pv 5) pa_nil))))) pa_nil)))))))))
      (pss_one (ps_ret (pv 6))))))), ?_⟩
    obtain ⟨ok, dx, fl, rl, hl, pl, fv, rv, hv, b⟩ := id hn
    refine ⟨_, rfl, p, dx, _, rfl, b.ob, nl_no (by decide +kernel), p, n, rfl, hn, fun fl2 fv2 H1 hf1 s1 h_fl2 hff => ?_⟩
    refine ⟨_, rfl, p, dx, _, rfl, s1 _ _ b.ob, nl_no (by decide +kernel), p, n, rfl, hn.same s1, fun pl2 H2 hp2 s2 h_pl2 => ?_⟩
    refine ⟨(by show 0 ≤ sizeLine; decide), fun dl hdl => ?_⟩
    generalize hG : upd _ dl _ = H3
    obtain ⟨s3, h_dl⟩ := upd_gen hG hdl
    have S3 := (s1.trans s2).trans s3
    have hd0 : H dl = none := (s1.trans s2).free hdl
    refine ⟨_, rfl, p, dx, _, rfl, S3 _ _ b.ob, nl_no (by decide +kernel), p, n, rfl, hn.same S3, fun rl2 rv2 H4 hr4 s4 h_rl2 hrr => ?_⟩
    have S4 := S3.trans s4
    have ndf : fl2 ≠ dl := ne_of_none (s2 _ _ h_fl2) hdl
    have ndp : pl2 ≠ dl := ne_of_none h_pl2 hdl
    have nrd : rl2 ≠ dl := (ne_of_none h_dl hr4).symm
    replace h_dl := s4 _ _ h_dl
    replace h_fl2 := s4 _ _ (s3 _ _ (s2 _ _ h_fl2))
    replace h_pl2 := s4 _ _ (s3 _ _ h_pl2)
    replace hff := hff.same ((s2.trans s3).trans s4)
    have ll := hrr.len
    rw [List.length_map] at ll
    have hl60 := ok.r2
    have lpt := pts_len n
    refine ⟨rl2, rfl, ⟨_, SqL.of h_rl2⟩, ?_⟩
    refine for_it (walk_list (K := K) (a := rl2) (xs := rv2)) (fun i σ G => ∃ y : Option V, σ = [some (.ref p), some (.int x), some (.ref sa), some (.ref fR), some (.ref fl2), some (.ref pl2), some (.ref dl), y] ∧ SameBut dl H4 G ∧ G dl = some (.lst ((accL (numRow n.fs n.pts x st) (n.rows.take i)).map V.int))) ⟨none, rfl, SameBut.refl _ _, h_dl⟩ (fun i σ G hi hP => ?_) (fun i v σ G G' hi hP hY => ?_) (fun σ G hP => ?_)
    · obtain ⟨y, rfl, B, _⟩ := hP
      exact SqL.of (B _ _ nrd h_rl2)
    · obtain ⟨y, rfl, B, hd⟩ := hP
      obtain ⟨rfl, hx⟩ := hY
      obtain ⟨rp, xs, rfl, ex, hrp⟩ := hrr.get hx
      rw [List.getElem?_map] at ex
      obtain ⟨r, er, rfl⟩ := Option.map_eq_some_iff.mp ex
      have il := (List.getElem?_eq_some_iff.mp er).1
      replace hrp := B _ _ (ne_of hrp h_dl (fun z => nomatch z)) hrp
      have la : (accL (numRow n.fs n.pts x st) (n.rows.take i)).length = i := by
        rw [accL_len, List.length_take]
        omega
      have nx := accL_next (g := numRow n.fs n.pts x st) er
      have small : ((accL (numRow n.fs n.pts x st) (n.rows.take i)).map V.int).length < sizeLine := by
        rw [List.length_map, la]
        exact sl_lt (by omega)
      have step : ∀ (G2 : Hp), Same G' G2 → ∃ y : Option V, [some (V.ref p), some (.int x), some (.ref sa), some (.ref fR), some (.ref fl2), some (.ref pl2), some (.ref dl), some (.ref rp)] = [some (.ref p), some (.int x), some (.ref sa), some (.ref fR), some (.ref fl2), some (.ref pl2), some (.ref dl), y] ∧ SameBut dl H4 (upd G2 dl (.lst ((accL (numRow n.fs n.pts x st) (n.rows.take i)).map V.int ++ [V.int (numRow n.fs n.pts x st (accL (numRow n.fs n.pts x st) (n.rows.take i)) r)]))) ∧ (upd G2 dl (.lst ((accL (numRow n.fs n.pts x st) (n.rows.take i)).map V.int ++ [V.int (numRow n.fs n.pts x st (accL (numRow n.fs n.pts x st) (n.rows.take i)) r)]))) dl = some (.lst ((accL (numRow n.fs n.pts x st) (n.rows.take (i + 1))).map V.int)) := fun G2 s => by
        refine ⟨_, rfl, (B.trans (.of s)).trans SameBut.upd, ?_⟩
        rw [upd_same, nx, List.map_append]
        rfl
      refine ⟨_, rfl, rp, _, 0, .str r.kd.s, rfl, rfl, SqT.of hrp, atI_nat (j := 0) r.vs0, rfl, _, rfl, ?_⟩
      by_cases k1 : r.kd = .inn
      · refine iteC (d := true) (by rw [k1]; exact decide_eq_true rfl) (iteT ?_)
        match r, k1, step with
        | .inn, _, step => exact ⟨_, rfl, .inl ⟨rfl, _, SqL.of hd⟩, _, rfl, dl, _, _, rfl, rfl, hd, small, step _ (Same.refl _)⟩
      refine iteC (d := false) (decide_eq_false (fun z => kd_ne _ _ k1 (V.str.inj z))) (iteF ?_)
      refine ⟨_, rfl, rp, _, 0, .str r.kd.s, rfl, rfl, SqT.of hrp, atI_nat (j := 0) r.vs0, rfl, _, rfl, ?_⟩
      by_cases k2 : r.kd = .old
      · refine iteC (d := true) (by rw [k2]; exact decide_eq_true rfl) (iteT ?_)
        have hsa2 := B _ _ (ne_of (S4 _ _ hsa) h_dl (fun z => nomatch z)) (S4 _ _ hsa)
        match r, k2, step, hrp, ok.ro i r er with
        | .old k, _, step, hrp, hk =>
          have hk' : k < st.length := by rw [hls]; exact hk
          exact ⟨_, rfl, .inl ⟨rfl, _, SqL.of hd⟩, _, rfl, _, rfl, rp, _, 1, .int k, rfl, rfl, SqT.of hrp, a1, sa, _, _, _, rfl, rfl, SqT.of hsa2, ints_at hk', dl, _, _, rfl, rfl, hd, small, step _ (Same.refl _)⟩
      refine iteC (d := false) (decide_eq_false (fun z => kd_ne _ _ k2 (V.str.inj z))) (iteF ?_)
      refine ⟨_, rfl, .inl ⟨rfl, _, SqL.of hd⟩, rfl, _, rfl, _, rfl, _, rfl, _, rfl, rp, dl, fl2, pl2, r, fv2, n.fs, n.holds.length, x, st, _, n.pts, rfl, hrp, k1, k2, hd, B _ _ ndf h_fl2, hff.butL B h_dl, B _ _ ndp h_pl2, by rw [la]; exact ok.ro i r er, by omega, fun k hk => ko.pre hk, ok.po, fun G2 s => ?_⟩
      exact ⟨dl, _, _, rfl, rfl, s _ _ hd, small, step _ s⟩
    · obtain ⟨y, rfl, B, hd⟩ := hP
      rw [ll, List.take_length] at hd
      exact ⟨_, rfl, q dl _ hd0 (same_but S4 B hd0) hd⟩
end
end E1

namespace E1
open PySem PySem.Spec PyProof.Rows L2
section
variable {P : Program} {w : World} {K : PySem.W.Frag} {mg : Str → Option Value} {base : Heap}
theorem sc_is_state : FnScope ["net", "thing", "holds", "forms", "hold", "word"] ["net", "thing"] (defScope s_is_state) := ⟨rfl, rfl, rfl, by decide +kernel, rfl, by decide +kernel, by decide +kernel⟩
theorem ok_is_state {f : Addr} {fd : FuncData} {C CN : Addr} (T : FTxt K mg C) (TN : NTxt K mg CN) (F : Fun K "is_state" "is_state" s_is_state f fd) (z : Zs mg) (n_forms : CalM P w K mg base 1 CN "forms" ["self"] (spFormsM C CN)) (n_holds : CalM P w K mg base 1 CN "holds" ["self"] (spHoldsM C CN)) (m_has : CalM P w K mg base 2 C "has" ["self", "thing"] (spHas K C)) : FnOk P w K mg base CX0 3 f fd ["net", "thing"] (spIsState C CN) := by
  refine F.ok sc_is_state (fun vs H Q E h => ?_) (fun cdv A outer s H vs Q E hr h => ?_)
  · obtain ⟨p, sa, n, st, rfl, _⟩ := h
    rfl
  · obtain ⟨p, sa, n, st, rfl, hn, hsa, so, q⟩ := h
    refine ⟨_, (pss_cons (ps_set (i := 2) sc_is_state.nd rfl (.inl rfl) (pe_calm0 (pv 0) TN.cl n_holds hr))
      (pss_cons (ps_if (PW.pt (pw_or (pt_not (pt_val (pe_callB call_isi (by rfl) z.isinstance (by decide +kernel) (pa_cons (pv 1) (pa_cons (pe_bltn (v := .ty "tuple") (by rfl) z.tuple (by decide +kernel) rfl) pa_nil))))) (pw_or1 (pt_cmpR op_ne (pe_callB call_len_seq (by rfl) z.len PySem.boot_len (pa_cons (pv 1) pa_nil)) (pe_callB call_len_seq (by rfl) z.len PySem.boot_len (pa_cons (pv 2) pa_nil)) (nomark _))))) (pss_one (ps_ret pe_bl)) pss_nil)
      (pss_cons (ps_set (i := 3) sc_is_state.nd rfl (.inr rfl) (pe_calm0 (pv 0) TN.cl n_forms hr))
      (pss_one (ps_ret (pe_callB (cr_all rfl) (by rfl) z.all (by decide +kernel) (pa_cons (pe_lc (own := [("hold", 4), ("word", 5)]) (g := gTup K 2 (gCons (gName 4) (gCons (gName 5) gNil))) (tt := tYes) (te := tMeth C "has" (spHas K C) [] E0 (tOp (rIxL K) (tVar 3) (tOp (rIxT K) (tVar 4) (tC (.int 0)))) (tCons (tVar 5) tNil)) (by rfl) sc_is_state.nd (pi_zipM (by rfl) z.zip (pa_cons (pv 2) (pa_cons (pv 1) pa_nil))) (blkOk_by (own := [("hold", 4), ("word", 5)]) (N := ["net", "thing", "holds", "forms", "hold", "word"]) (sc := defScope s_is_state) (by decide +kernel)) (fun _ _ _ _ _ => by exact (pg_tup (by rfl) (pgs_cons (pg_name (i := 4) sc_is_state.nd rfl (.inl rfl)) (pgs_cons (pg_name (i := 5) sc_is_state.nd rfl (.inl rfl)) pgs_nil)))) (fun _ _ _ _ _ => by exact pts_nil) (fun _ _ _ _ _ => by exact (pe_calm (pe_ix ix_list (pv 3) (pe_ix ix_tup (pv 4) pe_int (fun _ _ => rfl)) (fun _ _ => rfl)) T.cl m_has hr (pa_cons (pv 5) pa_nil)))) pa_nil))))))), ?_⟩
    obtain ⟨ok, dx, fl, rl, hl, pl, fv, rv, hv, b⟩ := id hn
    have sl := so.len
    have h6 := ok.h2
    refine ⟨_, rfl, p, dx, _, rfl, b.ob, nl_no (by decide +kernel), p, n, rfl, hn, fun hl2 hv2 H1 hf1 s1 h_hl2 hhh => ?_⟩
    have lh := hhh.len
    rw [List.length_map] at lh
    refine ⟨_, rfl, _, .ty "tuple", _, _, true, rfl, .ty _, .base (.tup (s1 _ _ hsa)), kit_ty (by decide +kernel), _, rfl, iteF ⟨_, rfl, sa, _, rfl, .inr (SqT.of (s1 _ _ hsa)), _, rfl, hl2, _, rfl, .inl (SqL.of h_hl2), rfl, _, rfl, iteC (d := false) (by rw [List.length_map, sl, lh, decide_eq_true rfl]; rfl) (iteF ?_)⟩⟩
    refine ⟨_, rfl, p, dx, _, rfl, s1 _ _ b.ob, nl_no (by decide +kernel), p, n, rfl, hn.same s1, fun fl2 fv2 H2 hf2 s2 h_fl2 hff => ?_⟩
    have S2 := s1.trans s2
    have hsa2 := S2 _ _ hsa
    have hhl2 := s2 _ _ h_hl2
    refine ⟨_, rfl, _, rfl, hl2, sa, hv2, st.map V.int, rfl, SqL.of hhl2, SqT.of hsa2, fun D hD => ?_⟩
    refine lc_it (walk_zipM (K := K) (a := hl2) (b := sa) (xs := hv2) (ys := st.map V.int) (by rw [List.length_map]; omega)) (fun i G => Same H2 G ∧ G D = some (.lst ((List.replicate i true).map V.bl))) ⟨same_new hD, upd_same⟩ (fun i G _ hP => ⟨SqL.of (hP.1 _ _ hhl2), SqT.of (hP.1 _ _ hsa2)⟩) (fun i x G G' hi hP hY => ?_) (fun G hP => ?_)
    · obtain ⟨s3, hd⟩ := hP
      obtain ⟨Tp, u, v, rfl, nT, rfl, e1, e2⟩ := hY
      obtain ⟨hp, xs, rfl, ex, hhp⟩ := hhh.get e1
      replace e2 : (st.map V.int)[i]? = some v := e2
      rw [List.getElem?_map] at ex e2
      obtain ⟨hh, eh, rfl⟩ := Option.map_eq_some_iff.mp ex
      obtain ⟨k, ek, rfl⟩ := Option.map_eq_some_iff.mp e2
      have kl := (ok.ho hh (List.mem_of_getElem? eh)).1
      obtain ⟨fp, efp, hfp⟩ := hff.frm kl
      have sN := same_new (o := .tup [.ref hp, .int k]) nT
      have S3 := s3.trans sN
      have ffp := FormAt.same hfp S3
      obtain ⟨dxf, hof⟩ := ffp.ob
      refine ⟨Tp, _, rfl, SqT.of upd_same, rfl, _, _, rfl, _, _, rfl, rfl, rfl, ?_⟩
      refine ⟨_, rfl, _, rfl, hp, _, 0, .int hh.k, rfl, rfl, SqT.of (S3 _ _ (s2 _ _ hhp)), a0, fl2, _, _, .ref fp, rfl, rfl, SqL.of (S3 _ _ h_fl2), atI_nat efp, fp, dxf, _, rfl, hof, fl_no (by decide +kernel), _, rfl, fp, _, _, _, _, .int k, _, rfl, ffp, .inl ⟨k, rfl, rfl⟩, _, sN _ _ hd, ?_, fun c o e => ?_, ?_⟩
      · rw [List.length_map, List.length_replicate]
        exact sl_lt (by omega)
      · rw [upd_ne (ne_of_none e hD)]
        exact S3 _ _ e
      · rw [upd_same, so.inr i hh k eh ek, List.replicate_succ', List.map_append]
        rfl
    · obtain ⟨s3, hd⟩ := hP
      refine ⟨D, _, rfl, SqL.of hd, ?_⟩
      rw [show (List.replicate hv2.length true).all id = true by rw [List.all_eq_true]; exact fun x hx => (List.mem_replicate.mp hx).2]
      exact q _ (S2.trans s3)
theorem sc_check_state : FnScope ["net", "state"] ["net", "state"] (defScope s_check_state) := ⟨rfl, rfl, rfl, by decide +kernel, rfl, by decide +kernel, by decide +kernel⟩
theorem ok_check_state {f : Addr} {fd : FuncData} {C CN : Addr} (F : Fun K "check_state" "check_state" s_check_state f fd) (c_is_state : Cal P w K mg base 3 "is_state" ["net", "thing"] (spIsState C CN)) : FnOk P w K mg base CX0 4 f fd ["net", "state"] (spCkState C CN) := by
  refine F.ok sc_check_state (fun vs H Q E h => ?_) (fun cdv A outer s H vs Q E hr h => ?_)
  · obtain ⟨p, sa, n, st, rfl, _⟩ := h
    rfl
  · obtain ⟨p, sa, n, st, rfl, hn, hsa, so, q⟩ := h
    refine ⟨_, (pss_one (ps_if (pt_not (pt_val (pe_cal c_is_state hr (pa_cons (pv 0) (pa_cons (pv 1) pa_nil))))) (pss_one ps_never) pss_nil)), ?_⟩
    exact ⟨_, rfl, _, rfl, p, sa, n, st, rfl, hn, hsa, so, fun H' s => ⟨_, rfl, iteF (q _ s)⟩⟩
theorem sc_check_word : FnScope ["net", "word"] ["net", "word"] (defScope s_check_word) := ⟨rfl, rfl, rfl, by decide +kernel, rfl, by decide +kernel, by decide +kernel⟩
theorem ok_check_word {f : Addr} {fd : FuncData} {C CN : Addr} (T : FTxt K mg C) (F : Fun K "check_word" "check_word" s_check_word f fd) (c_enter_form : Cal P w K mg base 2 "enter_form" ["net"] (spEnterForm C CN)) (m_has : CalM P w K mg base 2 C "has" ["self", "thing"] (spHas K C)) : FnOk P w K mg base CX0 3 f fd ["net", "word"] (spCkWord C CN) := by
  refine F.ok sc_check_word (fun vs H Q E h => ?_) (fun cdv A outer s H vs Q E hr h => ?_)
  · obtain ⟨p, n, x, rfl, _⟩ := h
    rfl
  · obtain ⟨p, n, x, rfl, hn, hi, q⟩ := h
    refine ⟨_, (pss_one (ps_if (pt_not (pt_val (pe_calm (pe_cal c_enter_form hr (pa_cons (pv 0) pa_nil)) T.cl m_has hr (pa_cons (pv 1) pa_nil)))) (pss_one ps_never) pss_nil)), ?_⟩
    refine ⟨_, rfl, p, n, rfl, hn, fun fp H1 s1 hf => ?_⟩
    obtain ⟨dx, ho⟩ := hf.ob
    refine ⟨fp, dx, _, rfl, ho, fl_no (by decide +kernel), _, rfl, fp, _, _, _, _, .int x, _, rfl, hf, .inl ⟨x, rfl, rfl⟩, _, rfl, ?_⟩
    rw [hi]
    exact iteF (q _ s1)
theorem sc_state_behind : FnScope ["net", "numbers", "hold"] ["net", "numbers"] (defScope s_state_behind) := ⟨rfl, rfl, rfl, by decide +kernel, rfl, by decide +kernel, by decide +kernel⟩
theorem ok_state_behind {f : Addr} {fd : FuncData} {C CN : Addr} (TN : NTxt K mg CN) (F : Fun K "state_behind" "state_behind" s_state_behind f fd) (z : Zs mg) (n_holds : CalM P w K mg base 1 CN "holds" ["self"] (spHoldsM C CN)) : FnOk P w K mg base CX0 2 f fd ["net", "numbers"] (spBehind C CN) := by
  refine F.ok sc_state_behind (fun vs H Q E h => ?_) (fun cdv A outer s H vs Q E hr h => ?_)
  · obtain ⟨p, na, n, nums, rfl, _⟩ := h
    rfl
  · obtain ⟨p, na, n, nums, rfl, hn, hna, ln, q⟩ := h
    refine ⟨_, (pss_one (ps_ret (pe_callTy call_tuple_of (by rfl) z.tuple (by decide +kernel) (pa_cons (pe_lc (own := [("hold", 2)]) (g := gName 2) (tt := tYes) (te := (tOp (rIxL K) (tVar 1) (tOp (rIxT K) (tVar 2) (tC (.int 2))))) (by rfl) sc_state_behind.nd (pi_list (pe_calm0 (pv 0) TN.cl n_holds hr)) (blkOk_by (own := [("hold", 2)]) (N := ["net", "numbers", "hold"]) (sc := defScope s_state_behind) (by decide +kernel)) (fun _ _ _ _ _ => by exact (pg_name (i := 2) sc_state_behind.nd rfl (.inl rfl))) (fun _ _ _ _ _ => by exact pts_nil) (fun _ _ _ _ _ => by exact (pe_ix ix_list (pv 1) (pe_ix ix_tup (pv 2) pe_int (fun _ _ => rfl)) (fun _ _ => rfl)))) pa_nil)))), ?_⟩
    obtain ⟨ok, dx, fl, rl, hl, pl, fv, rv, hv, b⟩ := id hn
    have h6 := ok.h2
    refine ⟨_, rfl, p, dx, _, rfl, b.ob, nl_no (by decide +kernel), p, n, rfl, hn, fun hl2 hv2 H1 hf1 s1 h_hl2 hhh => ?_⟩
    have lh := hhh.len
    rw [List.length_map] at lh
    refine ⟨hl2, rfl, ⟨_, SqL.of h_hl2⟩, fun D hD => ?_⟩
    refine lc_it (walk_list (K := K) (a := hl2) (xs := hv2)) (fun i G => Same H1 G ∧ G D = some (.lst (((n.holds.take i).map fun h => nums.getD h.l 0).map V.int))) ⟨same_new hD, upd_same⟩ (fun i G _ hP => SqL.of (hP.1 _ _ h_hl2)) (fun i x G G' hi hP hY => ?_) (fun G hP => ?_)
    · obtain ⟨s3, hd⟩ := hP
      obtain ⟨rfl, e1⟩ := hY
      obtain ⟨hp, xs, rfl, ex, hhp⟩ := hhh.get e1
      rw [List.getElem?_map] at ex
      obtain ⟨hh, eh, rfl⟩ := Option.map_eq_some_iff.mp ex
      obtain ⟨a, ea⟩ := (ok.ho hh (List.mem_of_getElem? eh)).2.2
      have al := (List.getElem?_eq_some_iff.mp ea).1
      refine ⟨rfl, _, rfl, _, rfl, hp, _, 2, .int hh.l, rfl, rfl, SqT.of (s3 _ _ hhp), a2, na, _, _, _, rfl, rfl, SqL.of ((s1.trans s3) _ _ hna), ints_at (by omega), _, hd, ?_, fun c o e => ?_, ?_⟩
      · rw [List.length_map, List.length_map, List.length_take]
        exact sl_lt (by omega)
      · rw [upd_ne (ne_of_none e hD)]
        exact s3 _ _ e
      · rw [upd_same, List.take_add_one, eh, List.map_append, List.map_append]
        rfl
    · obtain ⟨s3, hd⟩ := hP
      rw [lh, List.take_length] at hd
      refine ⟨D, _, rfl, .inl ⟨SqL.of hd, fun t ht => ?_⟩⟩
      generalize hG : upd _ t _ = G2
      obtain ⟨s4, h_t⟩ := upd_gen hG ht
      exact q t _ ((s1.trans s3).free ht) ((s1.trans s3).trans s4) h_t
theorem sc_turn_of : FnScope ["net", "state", "word", "numbers"] ["net", "state", "word"] (defScope s_turn_of) := ⟨rfl, rfl, rfl, by decide +kernel, rfl, by decide +kernel, by decide +kernel⟩
theorem ok_turn_of {f : Addr} {fd : FuncData} {C CN fR : Addr} (gR : mg "number_of_row" = some (.ref fR)) (F : Fun K "turn_of" "turn_of" s_turn_of f fd) (c_swept : Cal P w K mg base 7 "swept" ["net", "heard", "held", "rule"] (spSwept C CN fR)) (c_state_behind : Cal P w K mg base 2 "state_behind" ["net", "numbers"] (spBehind C CN)) : FnOk P w K mg base CX0 8 f fd ["net", "state", "word"] (spTurnOf C CN) := by
  refine F.ok sc_turn_of (fun vs H Q E h => ?_) (fun cdv A outer s H vs Q E hr h => ?_)
  · obtain ⟨p, sa, n, x, st, rfl, _⟩ := h
    rfl
  · obtain ⟨p, sa, n, x, st, rfl, hn, hsa, hl, ko, q⟩ := h
    refine ⟨_, (pss_cons (ps_set (i := 3) sc_turn_of.nd rfl (.inl rfl) (pe_cal c_swept hr (pa_cons (pv 0) (pa_cons (pv 2) (pa_cons (pv 1) (pa_cons (pe_glob (v := .ref fR) (by rfl) gR rfl) pa_nil))))))
      (pss_one (ps_ret (pe_tup (pa_cons (pv 3) (pa_cons (pe_cal c_state_behind hr (pa_cons (pv 0) (pa_cons (pv 3) pa_nil))) pa_nil)))))), ?_⟩
    refine ⟨_, rfl, _, rfl, _, rfl, p, sa, n, x, st, rfl, hn, hsa, hl, ko, fun l H1 hl0 s1 h_l => ?_⟩
    refine ⟨_, rfl, _, rfl, _, rfl, p, l, n, _, rfl, hn.same s1, h_l, nums_len n x st, fun s H2 hs s2 h_s => ⟨(by show 2 ≤ sizeLine; decide), fun t ht => ?_⟩⟩
    generalize hG : upd _ t _ = G2
    obtain ⟨s3, h_t⟩ := upd_gen hG ht
    exact q t l s _ ((s1.trans s2).trans s3) ((s1.trans s2).free ht) hl0 (s1.free hs) h_t (s3 _ _ (s2 _ _ h_l)) (s3 _ _ h_s)
theorem sc_turned : FnScope ["net", "state", "word"] ["net", "state", "word"] (defScope s_turned) := ⟨rfl, rfl, rfl, by decide +kernel, rfl, by decide +kernel, by decide +kernel⟩
theorem ok_turned {f : Addr} {fd : FuncData} {C CN : Addr} (F : Fun K "turned" "turned" s_turned f fd) (c_check_state : Cal P w K mg base 4 "check_state" ["net", "state"] (spCkState C CN)) (c_check_word : Cal P w K mg base 3 "check_word" ["net", "word"] (spCkWord C CN)) (c_turn_of : Cal P w K mg base 8 "turn_of" ["net", "state", "word"] (spTurnOf C CN)) : FnOk P w K mg base CX0 9 f fd ["net", "state", "word"] (spTurned C CN) := by
  refine F.ok sc_turned (fun vs H Q E h => ?_) (fun cdv A outer s H vs Q E hr h => ?_)
  · obtain ⟨p, sa, n, x, st, rfl, _⟩ := h
    rfl
  · obtain ⟨p, sa, n, x, st, rfl, hn, hsa, so, hi, ko, q⟩ := h
    refine ⟨_, (pss_cons (ps_expr (pe_cal c_check_state hr (pa_cons (pv 0) (pa_cons (pv 1) pa_nil))))
      (pss_cons (ps_expr (pe_cal c_check_word hr (pa_cons (pv 0) (pa_cons (pv 2) pa_nil))))
      (pss_one (ps_ret (pe_cal c_turn_of hr (pa_cons (pv 0) (pa_cons (pv 1) (pa_cons (pv 2) pa_nil)))))))), ?_⟩
    refine ⟨_, rfl, _, rfl, p, sa, n, st, rfl, hn, hsa, so, fun H1 s1 => ?_⟩
    refine ⟨_, rfl, _, rfl, p, n, x, rfl, hn.same s1, hi, fun H2 s2 => ?_⟩
    have S := s1.trans s2
    exact ⟨_, rfl, _, rfl, _, rfl, p, sa, n, x, st, rfl, hn.same S, S _ _ hsa, so.len, ko, fun t l s H' s3 ht hl hs h_t h_l h_s => q t l s H' (S.trans s3) (S.free ht) (S.free hl) (S.free hs) h_t h_l h_s⟩
end
end E1

namespace E1
open PySem PySem.Spec PyProof.Rows L2

structure IsN (K : PySem.W.Frag) (mg : Str → Option Value) (CN : Addr) : Prop where
  gC : mg "Net" = some (.ref CN)
  ha : PySem.W.findIn K (.ref CN) "__class__" = some (some (.builtin "object.__class__"))
  hn : PySem.W.specialIn K (.builtin "object.__class__") "__get__" = some (some (.builtin "getset_descriptor.__get__"))
  ht : PySem.W.takesIn K (.builtin "object.__class__") = some true
  hm : PySem.W.mroIn K CN (.type "object") = some true
  kC : PySem.W.kitOne K (.ref CN) (.ref CN) = some true
structure OwnQ (K : PySem.W.Frag) (C : Addr) (f : Addr) (fd : FuncData) : Prop where
  find : PySem.W.findIn K (.ref C) "__eq__" = some (some (.ref f))
  fn : PySem.W.isFn K (.ref f) = true
  b : Binds K fd ["self", "other"] []
/-- two forms alike -/
def RF (C : Addr) : Addr → Addr → Hp → Prop := fun a b H => ∃ f : FormP, FAt C H a f ∧ FAt C H b f
def RN (C CN : Addr) : Addr → Addr → Hp → Prop := fun a b H => ∃ n : NetP, NetAt C CN H a n ∧ NetAt C CN H b n
theorem RF.mon {C : Addr} : ∀ a b H H', Ext H H' → RF C a b H → RF C a b H' := fun a b H H' e r => by
  obtain ⟨f, x, y⟩ := r
  exact ⟨f, FormAt.same x e, FormAt.same y e⟩
theorem RN.mon {C CN : Addr} : ∀ a b H H', Ext H H' → RN C CN a b H → RN C CN a b H' := fun a b H H' e r => by
  obtain ⟨n, x, y⟩ := r
  exact ⟨n, x.same e, y.same e⟩
theorem flat_same {x : V} (h : flatV x = true) (e : eqV x x = true) : DFlat x x (fun _ => none) := ⟨h, h, e⟩
theorem FsAt.prs {C : Addr} {H : Hp} {fs : List FormP} {vs ws : List V} (h : FsAt C H vs fs) (g : FsAt C H ws fs) : Prs (DIns C (RF C)) vs ws H := by
  refine ⟨h.len.trans g.len.symm, fun i x y e1 e2 => ?_⟩
  obtain ⟨p, f, rfl, ef, hp⟩ := h.get e1
  obtain ⟨q, f2, rfl, ef2, hq⟩ := g.get e2
  rw [ef] at ef2
  cases ef2
  obtain ⟨d1, o1⟩ := hp.ob
  obtain ⟨d2, o2⟩ := hq.ob
  exact ⟨p, q, d1, d2, _, _, rfl, rfl, o1, o2, f, hp, hq⟩
theorem TsAt.prs {K : PySem.W.Frag} {H : Hp} {xss : List (List V)} {vs ws : List V} (h : TsAt H vs xss) (g : TsAt H ws xss) (fl : ∀ xs ∈ xss, ∀ x ∈ xs, flatV x = true ∧ eqV x x = true) : Prs (DTup K DFlat) vs ws H := by
  refine ⟨h.len.trans g.len.symm, fun i x y e1 e2 => ?_⟩
  obtain ⟨p, xs, rfl, ef, hp⟩ := h.get e1
  obtain ⟨q, xs2, rfl, ef2, hq⟩ := g.get e2
  rw [ef] at ef2
  cases ef2
  refine ⟨p, q, xs, xs, rfl, rfl, SqT.of hp, SqT.of hq, rfl, fun j u v a b => ?_⟩
  rw [a] at b
  cases b
  obtain ⟨f1, f2⟩ := fl xs (List.mem_of_getElem? ef) u (List.mem_of_getElem? a)
  exact ⟨f1, f1, f2⟩
theorem Row.flat (r : Row) : ∀ x ∈ r.vs, flatV x = true ∧ eqV x x = true := by
  have i : ∀ k : Int, eqV (.int k) (.int k) = true := fun k => by
    show (k == k) = true
    exact beq_self_eq_true k
  intro x hx
  cases r <;> simp only [Row.vs, List.mem_cons, List.not_mem_nil, or_false] at hx
  · subst hx; exact ⟨rfl, by decide +kernel⟩
  · rcases hx with rfl | rfl
    · exact ⟨rfl, by decide +kernel⟩
    · exact ⟨rfl, i _⟩
  · rcases hx with rfl | rfl | rfl | rfl
    · exact ⟨rfl, by decide +kernel⟩
    all_goals exact ⟨rfl, i _⟩
  all_goals
    rcases hx with rfl | rfl | rfl
    · exact ⟨rfl, by decide +kernel⟩
    all_goals exact ⟨rfl, i _⟩
theorem Hold.flat (h : Hold) : ∀ x ∈ h.vs, flatV x = true ∧ eqV x x = true := by
  intro x hx
  simp only [Hold.vs, List.mem_cons, List.not_mem_nil, or_false] at hx
  rcases hx with rfl | rfl | rfl
  all_goals exact ⟨rfl, beq_self_eq_true _⟩
theorem rows_flat (rs : List Row) : ∀ xs ∈ rs.map Row.vs, ∀ x ∈ xs, flatV x = true ∧ eqV x x = true := fun xs h => by
  obtain ⟨r, _, rfl⟩ := List.mem_map.mp h
  exact r.flat
theorem holds_flat (hs : List Hold) : ∀ xs ∈ hs.map Hold.vs, ∀ x ∈ xs, flatV x = true ∧ eqV x x = true := fun xs h => by
  obtain ⟨r, _, rfl⟩ := List.mem_map.mp h
  exact r.flat
section
variable {P : Program} {w : World} {K : PySem.W.Frag} {mg : Str → Option Value} {base : Heap}
theorem sc_Form___eq__ : FnScope ["self", "other"] ["self", "other"] (defScope s_Form___eq__) := ⟨rfl, rfl, rfl, by decide +kernel, rfl, by decide +kernel, by decide +kernel⟩
theorem ok_Form___eq__ {f : Addr} {fd : FuncData} {k : Nat} {C : Addr} (T : FTxt K mg C) (IC : IsC K mg C) (F : Fun K "__eq__" "Form.__eq__" s_Form___eq__ f fd) (z : Zs mg) : FnOk P w K mg base CX0 (k + 1) f fd ["self", "other"] (spEq (RF C)) := by
  refine F.ok sc_Form___eq__ (fun vs H Q E h => ?_) (fun cdv A outer s H vs Q E hr h => ?_)
  · obtain ⟨a, c, rfl, _⟩ := h
    rfl
  · obtain ⟨a, c, rfl, ⟨ff, hf, hf2⟩, q⟩ := h
    obtain ⟨⟨dx, ho⟩, hw, h0, h1⟩ := id hf
    obtain ⟨⟨dx2, ho2⟩, _, _, _⟩ := id hf2
    refine ⟨_, (pss_one (ps_ret (pe_and (pe_callB call_isi (by rfl) z.isinstance (by decide +kernel) (pa_cons (pv 1) (pa_cons (pe_glob (v := .ref C) (by rfl) IC.gC rfl) pa_nil))) (pe_and (pe_cmpR op_eq (pe_fld (pv 0) rfl) (pe_fld (pv 1) rfl) (nomark _)) (pe_and (pe_cmpR op_eq (pe_fld (pv 0) rfl) (pe_fld (pv 1) rfl) (nomark _)) (pe_and (pe_cmpR op_eq (pe_fld (pv 0) rfl) (pe_fld (pv 1) rfl) (nomark _)) (pe_one (pe_cmpR op_eq (pe_fld (pv 0) rfl) (pe_fld (pv 1) rfl) (nomark _))))))))), ?_⟩
    refine ⟨_, rfl, _, .ref C, .ref C, .ref C, true, rfl, .own C, .base (.ins ho2 T.cl IC.ha IC.hn IC.ht IC.hm), IC.kC, _, rfl, iteT ⟨_, rfl, ?_⟩⟩
    exact ⟨a, C, dx, _, _, rfl, ho, T.cl, T.nW, fl_w, _, rfl, c, C, dx2, _, _, rfl, ho2, T.cl, T.nW, fl_w, (by cases ff.w <;> rfl), _, rfl, iteC (d := true) (decide_eq_true rfl) (iteT ⟨_, rfl, a, C, dx, _, _, rfl, ho, T.cl, T.nP, fl_p, _, rfl, c, C, dx2, _, _, rfl, ho2, T.cl, T.nP, fl_p, rfl, _, rfl, iteC (d := true) (decide_eq_true rfl) (iteT ⟨_, rfl, a, C, dx, _, _, rfl, ho, T.cl, T.nM, fl_m, _, rfl, c, C, dx2, _, _, rfl, ho2, T.cl, T.nM, fl_m, rfl, _, rfl, iteC (d := true) (decide_eq_true rfl) (iteT ⟨_, rfl, a, C, dx, _, _, rfl, ho, T.cl, T.nE, fl_e, _, rfl, c, C, dx2, _, _, rfl, ho2, T.cl, T.nE, fl_e, rfl, qt rfl (q _ Ext.rfl')⟩)⟩)⟩)⟩
theorem sc_Net___eq__ : FnScope ["self", "other"] ["self", "other"] (defScope s_Net___eq__) := ⟨rfl, rfl, rfl, by decide +kernel, rfl, by decide +kernel, by decide +kernel⟩
theorem ok_Net___eq__ {f : Addr} {fd : FuncData} {C CN : Addr} (TN : NTxt K mg CN) (IN : IsN K mg CN) {fF : Addr} {fdF : FuncData} (okF : FnOk P w K mg base CX0 1 fF fdF ["self", "other"] (spEq (RF C))) (OQ : OwnQ K C fF fdF) (F : Fun K "__eq__" "Net.__eq__" s_Net___eq__ f fd) (z : Zs mg) : FnOk P w K mg base CX0 4 f fd ["self", "other"] (spEq (RN C CN)) := by
  refine F.ok sc_Net___eq__ (fun vs H Q E h => ?_) (fun cdv A outer s H vs Q E hr h => ?_)
  · obtain ⟨a, c, rfl, _⟩ := h
    rfl
  · obtain ⟨a, c, rfl, ⟨n, ⟨ok, dx, fl, rl, hl, pl, fv, rv, hv, b1⟩, ⟨_, dx2, fl2, rl2, hl2, pl2, fv2, rv2, hv2, b2⟩⟩, q⟩ := h
    refine ⟨_, (pss_one (ps_ret (pe_and (pe_callB call_isi (by rfl) z.isinstance (by decide +kernel) (pa_cons (pv 1) (pa_cons (pe_glob (v := .ref CN) (by rfl) IN.gC rfl) pa_nil))) (pe_and (pe_cmpR (op_eqG (rcG_list (mon_ins RF.mon) (eqG_ins okF OQ.find OQ.fn OQ.b pass0)) (hr.mono (by decide))) (pe_fld (pv 0) rfl) (pe_fld (pv 1) rfl) (nomark _)) (pe_and (pe_cmpR op_eq (pe_fld (pv 0) rfl) (pe_fld (pv 1) rfl) (nomark _)) (pe_and (pe_cmpR (op_eqG (rcG_list (mon_tup mon_flat) (eqG_tup mon_flat eqG_flat)) (hr.mono (by decide))) (pe_fld (pv 0) rfl) (pe_fld (pv 1) rfl) (nomark _)) (pe_and (pe_cmpR (op_eqG (rcG_list (mon_tup mon_flat) (eqG_tup mon_flat eqG_flat)) (hr.mono (by decide))) (pe_fld (pv 0) rfl) (pe_fld (pv 1) rfl) (nomark _)) (pe_one (pe_cmpR op_eq (pe_fld (pv 0) rfl) (pe_fld (pv 1) rfl) (nomark _)))))))))), ?_⟩
    refine ⟨_, rfl, _, .ref CN, .ref CN, .ref CN, true, rfl, .own CN, .base (.ins b2.ob TN.cl IN.ha IN.hn IN.ht IN.hm), IN.kC, _, rfl, iteT ⟨_, rfl, ?_⟩⟩
    refine ⟨a, CN, dx, _, _, rfl, b1.ob, TN.cl, TN.n_form_list, nl_f, _, rfl, c, CN, dx2, _, _, rfl, b2.ob, TN.cl, TN.n_form_list, nl_f, ⟨fl, fl2, fv, fv2, rfl, rfl, b1.fa, b2.fa, b1.fs.prs b2.fs⟩, fun H1 e1 => ?_⟩
    replace b1 := b1.same e1
    replace b2 := b2.same e1
    refine ⟨_, rfl, iteT ⟨_, rfl, a, CN, dx, _, _, rfl, (b1.ob), TN.cl, TN.n_enters_at, nl_e, _, rfl, c, CN, dx2, _, _, rfl, (b2.ob), TN.cl, TN.n_enters_at, nl_e, rfl, _, rfl, iteC (d := true) (decide_eq_true rfl) (iteT ?_)⟩⟩
    refine ⟨_, rfl, a, CN, dx, _, _, rfl, (b1.ob), TN.cl, TN.n_row_list, nl_r, _, rfl, c, CN, dx2, _, _, rfl, (b2.ob), TN.cl, TN.n_row_list, nl_r, ⟨rl, rl2, rv, rv2, rfl, rfl, b1.ra, b2.ra, b1.rs.prs b2.rs (rows_flat _)⟩, fun H2 e2 => ?_⟩
    replace b1 := b1.same e2
    replace b2 := b2.same e2
    refine ⟨_, rfl, iteT ⟨_, rfl, a, CN, dx, _, _, rfl, (b1.ob), TN.cl, TN.n_hold_list, nl_h, _, rfl, c, CN, dx2, _, _, rfl, (b2.ob), TN.cl, TN.n_hold_list, nl_h, ⟨hl, hl2, hv, hv2, rfl, rfl, b1.ha, b2.ha, b1.hs.prs b2.hs (holds_flat _)⟩, fun H3 e3 => ?_⟩⟩
    replace b1 := b1.same e3
    replace b2 := b2.same e3
    exact ⟨_, rfl, iteT ⟨_, rfl, a, CN, dx, _, _, rfl, (b1.ob), TN.cl, TN.n_out_at, nl_o, _, rfl, c, CN, dx2, _, _, rfl, (b2.ob), TN.cl, TN.n_out_at, nl_o, rfl, qt rfl (q _ ((Ext.trans e1 e2).trans e3))⟩⟩
end
end E1

namespace E1
open PySem PySem.Spec PyProof.Rows L2

theorem WellAt.ne {H : Hp} {a p : Addr} {c : Int} (h : WellAt H a c) (hp : H p = none) : p ≠ a := fun e => by
  obtain ⟨x, y, z, ha, _⟩ := h
  rw [← e, hp] at ha
  cases ha
theorem WellAt.lst {H : Hp} {a : Addr} {c : Int} (h : WellAt H a c) : ∃ xs, H a = some (.lst xs) := by
  obtain ⟨x, y, z, ha, _⟩ := h
  exact ⟨_, ha⟩
theorem WellAt.nt {H : Hp} {a p : Addr} {c : Int} {xs : List V} (h : WellAt H a c) (hp : H p = some (.tup xs)) : p ≠ a := fun e => by
  obtain ⟨x, y, z, ha, _⟩ := h
  rw [← e, hp] at ha
  cases ha
theorem sevenI {r : Int} (h0 : 0 ≤ r) (h1 : r < 7) : ∃ m : Mn, atI [V.str "down", V.str "up", V.str "in", V.str "out", V.str "half", V.str "even", V.str "far"] r = some (.str m.str) := by
  rcases (by omega : r = 0 ∨ r = 1 ∨ r = 2 ∨ r = 3 ∨ r = 4 ∨ r = 5 ∨ r = 6) with rfl | rfl | rfl | rfl | rfl | rfl | rfl
  · exact ⟨.down, rfl⟩
  · exact ⟨.up, rfl⟩
  · exact ⟨.inn, rfl⟩
  · exact ⟨.out, rfl⟩
  · exact ⟨.half, rfl⟩
  · exact ⟨.even, rfl⟩
  · exact ⟨.far, rfl⟩
theorem endI {r : Int} (h0 : 0 ≤ r) (h1 : r < 2) : ∃ st, atI [V.str "wrap", V.str "stop"] r = some (.str (endS st)) := by
  rcases (by omega : r = 0 ∨ r = 1) with rfl | rfl
  · exact ⟨false, rfl⟩
  · exact ⟨true, rfl⟩
theorem twoI {x y : V} {r : Int} (h0 : 0 ≤ r) (h1 : r < 2) : ∃ v, atI [x, y] r = some v ∧ (v = x ∨ v = y) := by
  rcases (by omega : r = 0 ∨ r = 1) with rfl | rfl
  · exact ⟨x, rfl, .inl rfl⟩
  · exact ⟨y, rfl, .inr rfl⟩
theorem threeI {x y z : V} {r : Int} (h0 : 0 ≤ r) (h1 : r < 3) : ∃ v, atI [x, y, z] r = some v ∧ (v = x ∨ v = y ∨ v = z) := by
  rcases (by omega : r = 0 ∨ r = 1 ∨ r = 2) with rfl | rfl | rfl
  · exact ⟨x, rfl, .inl rfl⟩
  · exact ⟨y, rfl, .inr (.inl rfl)⟩
  · exact ⟨z, rfl, .inr (.inr rfl)⟩
def spLForm : Sp := fun vs H Q _ => ∃ (a : Addr) (fr : Bool) (R c : Int), vs = [.ref a, .bl fr, .int R] ∧ 0 ≤ R ∧ R ≤ 60 ∧ WellAt H a c ∧ 0 ≤ c ∧ c ≤ 10000 ∧ ∀ (f : FormP) (p : Addr) (H' : Hp), f.Ok → (fr = false → f.w ≠ none) → -R - 2 ≤ f.pt → f.pt ≤ R + 2 → SameBut a H H' → WellAt H' a (c + 7) → p ≠ a → H p = none → H' p = some (.tup f.vs) → Q (.ref p) H'
def spLWord : Sp := fun vs H Q _ => ∃ (a p : Addr) (f : FormP) (c : Int), vs = [.ref a, .ref p] ∧ H p = some (.tup f.vs) ∧ f.Ok ∧ WellAt H a c ∧ 0 ≤ c ∧ c ≤ 10000 ∧ ∀ (s : Int) (H' : Hp), inR f.w s = true → s.natAbs < 2 ^ 70 → SameBut a H H' → WellAt H' a (c + 5) → Q (.int s) H'
/-- by how much a row moves the point -/
def Row.by_ : Row → Int → Prop
  | .times _ m _, R => (m : Int) ≤ R
  | .move m _, R => -R ≤ m ∧ m ≤ R
  | _, _ => True
def spLRow : Sp := fun vs H Q _ => ∃ (a : Addr) (fc i hc : Nat) (fr : Bool) (R c : Int), vs = [.ref a, .int fc, .int i, .bl fr, .int R, .int hc] ∧ 1 ≤ fc ∧ fc ≤ 12 ∧ 1 ≤ i ∧ i ≤ 100 ∧ 0 ≤ R ∧ R ≤ 60 ∧ hc ≤ 100 ∧ WellAt H a c ∧ 0 ≤ c ∧ c ≤ 10000 ∧
  ∀ (r : Row) (p : Addr) (H' : Hp), RowOk hc fc i r → r.by_ R → (fr = true → r.small) → SameBut a H H' → WellAt H' a (c + 10) → p ≠ a → H p = none → H' p = some (.tup r.vs) → Q (.ref p) H'
theorem same_free {a p : Addr} {H H' : Hp} {xs : List V} (s : SameBut a H H') (ha : H a = some (.lst xs)) (h : H' p = none) (n : p ≠ a) : H p = none := by
  cases e : H p with
  | none => rfl
  | some o =>
    rw [s _ _ n e] at h
    cases h

theorem TsAt.push {H : Hp} {l p : Addr} {vs xs : List V} {xss : List (List V)} (hl : H l = some (.lst vs)) (t : TsAt H vs xss) (hp : H p = some (.tup xs)) : TsAt (upd H l (.lst (vs ++ [.ref p]))) (vs ++ [.ref p]) (xss ++ [xs]) := by
  refine TsAt.app (t.but SameBut.upd hl) (.cons ?_ .nil)
  rw [upd_ne (ne_of hp hl (fun z => nomatch z))]
  exact hp
def BegOk (hc : Nat) : Row → Prop
  | .inn => True
  | .old k => k < hc
  | _ => False
def spLBegin : Sp := fun vs H Q _ => ∃ (a : Addr) (hc : Nat) (c : Int), vs = [.ref a, .int hc] ∧ hc ≤ 3 ∧ WellAt H a c ∧ 0 ≤ c ∧ c ≤ 10000 ∧
  ∀ (rows : List Row) (l : Addr) (H' : Hp), (∀ r ∈ rows, BegOk hc r) → 1 ≤ rows.length → rows.length ≤ 6 → SameBut a H H' → WellAt H' a (c + 20) → l ≠ a → H l = none → TL7 H' l (rows.map Row.vs) → Q (.ref l) H'
/-- but for two -/
def SameBut2 (a l : Addr) (H H' : Hp) : Prop := ∀ b o, b ≠ a → b ≠ l → H b = some o → H' b = some o
theorem SameBut2.trans {a l : Addr} {H H1 H2 : Hp} (x : SameBut2 a l H H1) (y : SameBut2 a l H1 H2) : SameBut2 a l H H2 := fun b o n m e => y b o n m (x b o n m e)
theorem SameBut2.refl (a l : Addr) (H : Hp) : SameBut2 a l H H := fun _ _ _ _ e => e
theorem SameBut2.one {a l : Addr} {H H' : Hp} (s : SameBut a H H') : SameBut2 a l H H' := fun b o n _ e => s b o n e
theorem SameBut2.two {a l : Addr} {H H' : Hp} (s : SameBut l H H') : SameBut2 a l H H' := fun b o _ m e => s b o m e
theorem SameBut2.of {a l : Addr} {H H' : Hp} (s : Same H H') : SameBut2 a l H H' := fun b o _ _ e => s b o e
def MixRow (n0 : Nat) (M : Int) : Row → Prop
  | .times f m a => a < n0 ∧ (m : Int) ≤ M ∧ f.natAbs ≤ 9
  | .plus _ _ => True
  | .less _ _ => True
  | _ => False
def spLMixed : Sp := fun vs H Q _ => ∃ (a l : Addr) (rows : List Row) (M c : Int), vs = [.ref a, .ref l, .int M] ∧ TL7 H l (rows.map Row.vs) ∧ l ≠ a ∧ 0 ≤ M ∧ M ≤ 6 ∧ 1 ≤ rows.length ∧ rows.length ≤ 6 ∧ WellAt H a c ∧ 0 ≤ c ∧ c ≤ 10000 ∧
  ∀ (ex : List Row) (last : Nat) (H' : Hp), (∀ r ∈ ex, MixRow rows.length M r) → (∀ i r, (rows ++ ex)[i]? = some r → rows.length ≤ i → ∀ hc fc, RowOk hc fc i r) → last < (rows ++ ex).length → ex.length ≤ 10 → SameBut2 a l H H' → WellAt H' a (c + 20) → TL7 H' l ((rows ++ ex).map Row.vs) → Q (.int last) H'
def spLLink (K : PySem.W.Frag) : Sp := fun vs H Q _ => ∃ (a l : Addr) (rows : List Row) (kd last : Nat) (c : Int), vs = [.ref a, .ref l, .int kd, .int last] ∧ TL7 H l (rows.map Row.vs) ∧ l ≠ a ∧ last < rows.length ∧ rows.length ≤ 50 ∧ WellAt H a c ∧ 0 ≤ c ∧ c ≤ 10000 ∧
  ∀ (ex : List Row) (j x : Nat) (H' : Hp), (ex = [] ∨ ex = [.keep kd x] ∧ x < rows.length) → (∃ y, (rows ++ ex)[j]? = some (.keep kd y)) → SameBut2 a l H H' → WellAt H' a (c + 5) → TL7 H' l ((rows ++ ex).map Row.vs) → Q (.int j) H'
theorem range_snoc {β : Type} (f : Nat → β) (i : Nat) : (List.range (i + 1)).map f = (List.range i).map f ++ [f i] := by
  rw [List.range_succ, List.map_append]
  rfl
theorem snoc_at {rows ex : List Row} {r r' : Row} {i : Nat} (h : (rows ++ (ex ++ [r']))[i]? = some r) : (rows ++ ex)[i]? = some r ∨ (i = (rows ++ ex).length ∧ r = r') := by
  rw [← List.append_assoc] at h
  by_cases c : i < (rows ++ ex).length
  · rw [List.getElem?_append_left c] at h
    exact .inl h
  · rw [List.getElem?_append_right (by omega)] at h
    have : i - (rows ++ ex).length = 0 := by
      have := (List.getElem?_eq_some_iff.mp h).1
      simp only [List.length_singleton] at this
      omega
    rw [this] at h
    refine .inr ⟨by omega, (Option.some.inj h).symm⟩

theorem TL7.push {G : Hp} {l p : Addr} {rows : List Row} {r : Row} {vs : List V} (hl : G l = some (.lst vs)) (t : TsAt G vs (rows.map Row.vs)) (hp : G p = some (.tup r.vs)) : TL7 (upd G l (.lst (vs ++ [.ref p]))) l ((rows ++ [r]).map Row.vs) := by
  refine ⟨_, upd_same, ?_⟩
  rw [List.map_append]
  exact TsAt.push hl t hp
theorem TsAt.rlen {G : Hp} {rows : List Row} {vs : List V} (t : TsAt G vs (rows.map Row.vs)) : vs.length = rows.length := by
  rw [t.len, List.length_map]
theorem snoc_len {rows ex : List Row} {r : Row} : (rows ++ (ex ++ [r])).length = (rows ++ ex).length + 1 := by simp only [List.length_append, List.length_singleton]; omega
/-- a row's first two things -/
def Row.d2 : Row → List PyData
  | .inn => [.str "in"]
  | .old k => [.str "old", .int k]
  | .times f _ _ => [.str "times", .int f]
  | .plus a _ => [.str "plus", .int a]
  | .less a _ => [.str "less", .int a]
  | .move m _ => [.str "move", .int m]
  | .keep f _ => [.str "keep", .int f]
theorem Row.d2_shaped (r : Row) : SeqAt.shaped (.tuple r.d2) = true := by
  have k1 : ∀ (z : Str) (k : Int), PyData.canLay0 (.str z) = true → SeqAt.shaped (.tuple [.str z, .int k]) = true := fun z k h => by
    show (PyData.canLay0 (.tuple [.str z, .int k]) && decide (PyData.depth (.tuple [.str z, .int k]) ≤ 64)) = true
    have e : PyData.canLay0 (.tuple [.str z, .int k]) = true := by
      simp only [PyData.canLay0, PyData.canLayAll0, Bool.and_true] at h ⊢
      exact h
    rw [e, Bool.true_and]
    simp only [PyData.depth, PyData.depthAll]
    rfl
  cases r with
  | inn => exact (by decide +kernel : SeqAt.shaped (.tuple [.str "in"]) = true)
  | old k => exact k1 _ _ (by simp only [PyData.canLay0]; decide +kernel)
  | times f m a => exact k1 _ _ (by simp only [PyData.canLay0]; decide +kernel)
  | plus a b => exact k1 _ _ (by simp only [PyData.canLay0]; decide +kernel)
  | less a b => exact k1 _ _ (by simp only [PyData.canLay0]; decide +kernel)
  | move m a => exact k1 _ _ (by simp only [PyData.canLay0]; decide +kernel)
  | keep f a => exact k1 _ _ (by simp only [PyData.canLay0]; decide +kernel)
theorem Row.d2_keep (r : Row) (kd : Nat) (h : PyData.eqv (.tuple r.d2) (.tuple [.str "keep", .int kd]) = true) : ∃ y, r = .keep kd y := by
  have ne : ∀ (z : Str), (z == ("keep" : Str)) = false → ∀ t, PyData.eqv (.tuple (.str z :: t)) (.tuple [.str "keep", .int kd]) = true → False := fun z hz t e => by
    simp only [PyData.eqv, PyData.eqvAll] at e
    rw [hz] at e
    cases e
  cases r with
  | inn => exact (ne _ (by decide +kernel) _ h).elim
  | old k => exact (ne _ (by decide +kernel) _ h).elim
  | times f m a => exact (ne _ (by decide +kernel) _ h).elim
  | plus a b => exact (ne _ (by decide +kernel) _ h).elim
  | less a b => exact (ne _ (by decide +kernel) _ h).elim
  | move m a => exact (ne _ (by decide +kernel) _ h).elim
  | keep f a =>
    simp only [Row.d2, PyData.eqv, PyData.eqvAll, Bool.and_true, Bool.and_eq_true, beq_iff_eq] at h
    have := h.2
    refine ⟨a, ?_⟩
    congr 1
    omega
theorem Row.dp1 {K : PySem.W.Frag} {H : Hp} (r : Row) (h : HT.sIx r.vs.length 0 none = 0 ∧ HT.sIx r.vs.length r.vs.length (some 2) = r.vs.length) : DpAll K H r.vs r.d2 := by
  cases r with
  | inn => exact .cons (.str _) .nil
  | old k => exact .cons (.str _) (.cons (.int _) .nil)
  | times f m a => exact absurd h (by show ¬ (HT.sIx 4 0 none = 0 ∧ HT.sIx 4 4 (some 2) = 4); decide)
  | plus a b => exact absurd h (by show ¬ (HT.sIx 3 0 none = 0 ∧ HT.sIx 3 3 (some 2) = 3); decide)
  | less a b => exact absurd h (by show ¬ (HT.sIx 3 0 none = 0 ∧ HT.sIx 3 3 (some 2) = 3); decide)
  | move m a => exact absurd h (by show ¬ (HT.sIx 3 0 none = 0 ∧ HT.sIx 3 3 (some 2) = 3); decide)
  | keep f a => exact absurd h (by show ¬ (HT.sIx 3 0 none = 0 ∧ HT.sIx 3 3 (some 2) = 3); decide)
theorem Row.dp2 {K : PySem.W.Frag} {H : Hp} (r : Row) : DpAll K H (cutV r.vs none (some 2)) r.d2 := by
  cases r with
  | inn => exact .cons (.str _) .nil
  | old k => exact .cons (.str _) (.cons (.int _) .nil)
  | times f m a => exact .cons (.str _) (.cons (.int _) .nil)
  | plus a b => exact .cons (.str _) (.cons (.int _) .nil)
  | less a b => exact .cons (.str _) (.cons (.int _) .nil)
  | move m a => exact .cons (.str _) (.cons (.int _) .nil)
  | keep f a => exact .cons (.str _) (.cons (.int _) .nil)
theorem dp_nats {K : PySem.W.Frag} {H : Hp} : ∀ ns : List Nat, DpAll K H (ns.map fun n : Nat => V.int (n : Int)) ((ns.map fun n : Nat => (n : Int)).map PyData.int)
  | [] => .nil
  | _ :: ns => .cons (.int _) (dp_nats ns)
/-! ### how far the points of a net go -/
structure Bd (en : Int) (hp fp : List Int) (W : Int) : Prop where
  w0 : 0 ≤ W
  en : -W ≤ en ∧ en ≤ W
  hp : ∀ x ∈ hp, -W ≤ x ∧ x ≤ W
  fp : ∀ x ∈ fp, -W ≤ x ∧ x ≤ W
theorem getD_bd {l : List Int} {k : Nat} {W : Int} (h : ∀ x ∈ l, -W ≤ x ∧ x ≤ W) (w : 0 ≤ W) : -W ≤ l.getD k 0 ∧ l.getD k 0 ≤ W := by
  by_cases c : k < l.length
  · refine h _ ?_
    rw [List.getD_eq_getElem?_getD, List.getElem?_eq_getElem c]
    exact List.getElem_mem _
  · rw [List.getD_eq_getElem?_getD, List.getElem?_eq_none (by omega)]
    show -W ≤ 0 ∧ (0 : Int) ≤ W
    omega
structure RowsG (hc fc : Nat) (en : Int) (hp fp : List Int) (rows : List Row) (B : Int) : Prop where
  ok : ∀ i r, rows[i]? = some r → RowOk hc fc i r
  pb : ∀ p ∈ ptsOf en hp fp rows, -B ≤ p ∧ p ≤ B
theorem row_get {rows : List Row} {r r' : Row} {i : Nat} (h : (rows ++ [r'])[i]? = some r) : rows[i]? = some r ∨ (i = rows.length ∧ r = r') := by
  have := snoc_at (rows := rows) (ex := []) (r := r) (r' := r') (i := i) (by rw [List.nil_append]; exact h)
  rw [List.append_nil] at this
  exact this
section
variable {hc fc : Nat} {en : Int} {hp fp : List Int} {W R B B' M : Int}
theorem RowsG.mono {rows : List Row} (g : RowsG hc fc en hp fp rows B) (l : B ≤ B') : RowsG hc fc en hp fp rows B' :=
  ⟨g.ok, fun p h => by have := g.pb p h; omega⟩
theorem rowPt_bd {pts : List Int} (b : Bd en hp fp W) (wb : W ≤ B) (r0 : 0 ≤ R) (hpb : ∀ p ∈ pts, -B ≤ p ∧ p ≤ B) (r : Row) (by_ : r.by_ R) : -(B + R) ≤ rowPt en hp fp pts r ∧ rowPt en hp fp pts r ≤ B + R := by
  have w0 := b.w0
  have P : ∀ k, -B ≤ pts.getD k 0 ∧ pts.getD k 0 ≤ B := fun k => getD_bd hpb (by omega)
  have Hq : ∀ k, -W ≤ hp.getD k 0 ∧ hp.getD k 0 ≤ W := fun k => getD_bd b.hp w0
  have Fq : ∀ k, -W ≤ fp.getD k 0 ∧ fp.getD k 0 ≤ W := fun k => getD_bd b.fp w0
  cases r with
  | inn =>
    have := b.en
    show -(B + R) ≤ en ∧ en ≤ B + R
    omega
  | old k =>
    have := Hq k
    show -(B + R) ≤ hp.getD k 0 ∧ hp.getD k 0 ≤ B + R
    omega
  | times f m a =>
    have := P a
    have h : (m : Int) ≤ R := by_
    show -(B + R) ≤ pts.getD a 0 + m ∧ pts.getD a 0 + m ≤ B + R
    omega
  | plus x y =>
    have := P x
    have := P y
    show -(B + R) ≤ (if pts.getD y 0 > pts.getD x 0 then pts.getD y 0 else pts.getD x 0) ∧ (if pts.getD y 0 > pts.getD x 0 then pts.getD y 0 else pts.getD x 0) ≤ B + R
    split <;> omega
  | less x y =>
    have := P x
    have := P y
    show -(B + R) ≤ (if pts.getD y 0 > pts.getD x 0 then pts.getD y 0 else pts.getD x 0) ∧ (if pts.getD y 0 > pts.getD x 0 then pts.getD y 0 else pts.getD x 0) ≤ B + R
    split <;> omega
  | move m a =>
    have := P a
    obtain ⟨h1, h2⟩ : -R ≤ m ∧ m ≤ R := by_
    show -(B + R) ≤ pts.getD a 0 - m ∧ pts.getD a 0 - m ≤ B + R
    omega
  | keep f a =>
    have := Fq f
    show -(B + R) ≤ fp.getD f 0 ∧ fp.getD f 0 ≤ B + R
    omega
theorem RowsG.snoc {rows : List Row} {r : Row} (g : RowsG hc fc en hp fp rows B) (b : Bd en hp fp W) (wb : W ≤ B) (r0 : 0 ≤ R) (ok : RowOk hc fc rows.length r) (by_ : r.by_ R) : RowsG hc fc en hp fp (rows ++ [r]) (B + R) := by
  refine ⟨fun i x h => ?_, fun p h => ?_⟩
  · rcases row_get h with h | ⟨rfl, rfl⟩
    · exact g.ok i x h
    · exact ok
  · rw [ptsOf_snoc] at h
    rcases List.mem_append.mp h with h | h
    · have := g.pb p h
      omega
    · rw [List.mem_singleton.mp h]
      exact rowPt_bd b wb r0 g.pb r by_
theorem RowsG.keep {rows : List Row} {kd x : Nat} (g : RowsG hc fc en hp fp rows B) (b : Bd en hp fp W) (wb : W ≤ B) (hk : kd < fc) (hx : x < rows.length) : RowsG hc fc en hp fp (rows ++ [.keep kd x]) B := by
  have := g.snoc (r := .keep kd x) (R := 0) b wb (Int.le_refl _) ⟨hk, hx⟩ trivial
  exact this.mono (by omega)
theorem RowsG.begin {rows : List Row} (b : Bd en hp fp W) (h : ∀ r ∈ rows, BegOk hc r) : RowsG hc fc en hp fp rows W := by
  refine ⟨fun i r e => ?_, fun p hpm => ?_⟩
  · have := h r (List.mem_of_getElem? e)
    cases r with
    | inn => trivial
    | old k => exact this
    | _ => exact this.elim
  · obtain ⟨i, hi, rfl⟩ := List.getElem_of_mem hpm
    have hl : i < rows.length := by rw [ptsOf_len] at hi; exact hi
    have e := List.getElem?_eq_getElem hl
    have e2 := accL_at (g := rowPt en hp fp) e
    rw [← ptsOf_acc, List.getElem?_eq_getElem hi] at e2
    rw [Option.some.inj e2]
    have := h _ (List.getElem_mem hl)
    generalize rows[i] = r at *
    cases r with
    | inn => exact b.en
    | old k => exact getD_bd b.hp b.w0
    | _ => exact this.elim
theorem getD_pre {l t : List Int} {k : Nat} (h : k < l.length) : (l ++ t).getD k 0 = l.getD k 0 := by
  rw [List.getD_eq_getElem?_getD, List.getD_eq_getElem?_getD, List.getElem?_append_left h]
theorem mix_pb {rows : List Row} (m0 : 0 ≤ M) (b : Bd en hp fp W) (hb : ∀ p ∈ ptsOf en hp fp rows, -W ≤ p ∧ p ≤ W) : ∀ (n : Nat) (ex : List Row), ex.length = n → (∀ r ∈ ex, MixRow rows.length M r) → ∀ p ∈ ptsOf en hp fp (rows ++ ex), -(W + M) ≤ p ∧ p ≤ W + M := by
  have w0 := b.w0
  intro n
  induction n with
  | zero =>
    intro ex le _ p h
    rw [List.length_eq_zero_iff.mp le, List.append_nil] at h
    have := hb p h
    omega
  | succ n ih =>
    intro ex le hm p h
    obtain ⟨ex', r, rfl⟩ : ∃ ex' r, ex = ex' ++ [r] := by
      have hne : ex ≠ [] := fun z => by rw [z] at le; cases le
      exact ⟨_, _, (List.dropLast_concat_getLast hne).symm⟩
    have le' : ex'.length = n := by rw [List.length_append, List.length_singleton] at le; omega
    have ih' := ih ex' le' fun x hx => hm x (List.mem_append.mpr (.inl hx))
    rw [← List.append_assoc, ptsOf_snoc] at h
    rcases List.mem_append.mp h with h | h
    · exact ih' p h
    · rw [List.mem_singleton.mp h]
      have P : ∀ k, -(W + M) ≤ (ptsOf en hp fp (rows ++ ex')).getD k 0 ∧ (ptsOf en hp fp (rows ++ ex')).getD k 0 ≤ W + M := fun k => getD_bd ih' (by omega)
      have hr := hm r (List.mem_append.mpr (.inr (List.mem_singleton.mpr rfl)))
      cases r with
      | times f m a =>
        obtain ⟨h1, h2, _⟩ := hr
        show -(W + M) ≤ (ptsOf en hp fp (rows ++ ex')).getD a 0 + m ∧ (ptsOf en hp fp (rows ++ ex')).getD a 0 + m ≤ W + M
        obtain ⟨t, et⟩ := accL_pre (rowPt en hp fp) rows ex'
        rw [← ptsOf_acc, ← ptsOf_acc] at et
        rw [et, getD_pre (by rw [ptsOf_len]; exact h1)]
        have := getD_bd (k := a) hb w0
        omega
      | plus x y =>
        have := P x
        have := P y
        show -(W + M) ≤ (if (ptsOf en hp fp (rows ++ ex')).getD y 0 > (ptsOf en hp fp (rows ++ ex')).getD x 0 then (ptsOf en hp fp (rows ++ ex')).getD y 0 else (ptsOf en hp fp (rows ++ ex')).getD x 0) ∧ (if (ptsOf en hp fp (rows ++ ex')).getD y 0 > (ptsOf en hp fp (rows ++ ex')).getD x 0 then (ptsOf en hp fp (rows ++ ex')).getD y 0 else (ptsOf en hp fp (rows ++ ex')).getD x 0) ≤ W + M
        split <;> omega
      | less x y =>
        have := P x
        have := P y
        show -(W + M) ≤ (if (ptsOf en hp fp (rows ++ ex')).getD y 0 > (ptsOf en hp fp (rows ++ ex')).getD x 0 then (ptsOf en hp fp (rows ++ ex')).getD y 0 else (ptsOf en hp fp (rows ++ ex')).getD x 0) ∧ (if (ptsOf en hp fp (rows ++ ex')).getD y 0 > (ptsOf en hp fp (rows ++ ex')).getD x 0 then (ptsOf en hp fp (rows ++ ex')).getD y 0 else (ptsOf en hp fp (rows ++ ex')).getD x 0) ≤ W + M
        split <;> omega
      | inn => exact hr.elim
      | old k => exact hr.elim
      | move m a => exact hr.elim
      | keep f a => exact hr.elim
theorem RowsG.mix {rows ex : List Row} (m0 : 0 ≤ M) (b : Bd en hp fp W) (g : RowsG hc fc en hp fp rows W) (hm : ∀ r ∈ ex, MixRow rows.length M r) (ho : ∀ i r, (rows ++ ex)[i]? = some r → rows.length ≤ i → ∀ hc fc, RowOk hc fc i r) : RowsG hc fc en hp fp (rows ++ ex) (W + M) := by
  refine ⟨fun i r e => ?_, mix_pb m0 b g.pb _ ex rfl hm⟩
  by_cases c : i < rows.length
  · rw [List.getElem?_append_left c] at e
    exact g.ok i r e
  · exact ho i r e (by omega) _ _
end
/-! ### the heap of a law's net -/
theorem TsAt.but2 {H H' : Hp} {a l : Addr} {xs ys vs : List V} {xss : List (List V)} (h : TsAt H vs xss) (s : SameBut2 a l H H') (ha : H a = some (.lst xs)) (hl : H l = some (.lst ys)) : TsAt H' vs xss :=
  h.mono fun _ _ e => s _ _ (ne_of e ha (fun z => nomatch z)) (ne_of e hl (fun z => nomatch z)) e
theorem TL7.but2 {H H' : Hp} {a l b : Addr} {xs ys : List V} {xss : List (List V)} (h : TL7 H b xss) (s : SameBut2 a l H H') (ha : H a = some (.lst xs)) (hl : H l = some (.lst ys)) (n1 : b ≠ a) (n2 : b ≠ l) : TL7 H' b xss := by
  obtain ⟨vs, e, t⟩ := h
  exact ⟨vs, s _ _ n1 n2 e, t.but2 s ha hl⟩
def nI (n : Nat) : V := .int (n : Int)
structure NB (H G : Hp) (a kl fl ml : Addr) (ks : List Nat) (fs : List FormP) (rows : List Row) (c : Int) : Prop where
  sb : SameBut a H G
  w : WellAt G a c
  k : G kl = some (.lst (ks.map nI))
  f : TL7 G fl (fs.map FormP.vs)
  m : TL7 G ml (rows.map Row.vs)
  n1 : kl ≠ a
  n2 : fl ≠ a
  n3 : ml ≠ a
  n4 : kl ≠ ml
  n5 : fl ≠ ml
  f0 : H ml = none
section
variable {H G G' : Hp} {a kl fl ml : Addr} {ks : List Nat} {fs : List FormP} {rows rows' : List Row} {c c' : Int}
theorem NB.one (b : NB H G a kl fl ml ks fs rows c) (s : SameBut a G G') (w : WellAt G' a c') : NB H G' a kl fl ml ks fs rows c' := by
  obtain ⟨xs, hx⟩ := b.w.lst
  exact ⟨b.sb.trans s, w, s _ _ b.n1 b.k, b.f.but s hx b.n2, b.m.but s hx b.n3, b.n1, b.n2, b.n3, b.n4, b.n5, b.f0⟩
theorem NB.new (b : NB H G a kl fl ml ks fs rows c) (s : Same G G') : NB H G' a kl fl ml ks fs rows c := b.one (.of s) (b.w.same s)
theorem NB.mono (b : NB H G a kl fl ml ks fs rows c) (l : c ≤ c') : NB H G a kl fl ml ks fs rows c' := ⟨b.sb, b.w.mono l, b.k, b.f, b.m, b.n1, b.n2, b.n3, b.n4, b.n5, b.f0⟩
theorem NB.two (b : NB H G a kl fl ml ks fs rows c) (s : SameBut2 a ml G G') (w : WellAt G' a c') (m : TL7 G' ml (rows'.map Row.vs)) : NB H G' a kl fl ml ks fs rows' c' := by
  obtain ⟨xs, hx⟩ := b.w.lst
  obtain ⟨ys, hy, _⟩ := b.m
  refine ⟨fun x o n e => s x o n (fun z => ?_) (b.sb x o n e), w, s _ _ b.n1 b.n4 b.k, b.f.but2 s hx hy b.n2 b.n5, m, b.n1, b.n2, b.n3, b.n4, b.n5, b.f0⟩
  have := b.f0
  rw [← z, e] at this
  cases this
theorem NB.but {x : Addr} {ys : List V} (b : NB H G a kl fl ml ks fs rows c) (s : SameBut x G G') (hx : G x = some (.lst ys)) (h0 : H x = none) (m1 : a ≠ x) (m2 : kl ≠ x) (m3 : fl ≠ x) (m4 : ml ≠ x) : NB H G' a kl fl ml ks fs rows c := by
  refine ⟨fun y o n e => s y o (fun z => ?_) (b.sb y o n e), b.w.but s m1, s _ _ m2 b.k, b.f.but s hx m3, b.m.but s hx m4, b.n1, b.n2, b.n3, b.n4, b.n5, b.f0⟩
  rw [z, h0] at e
  cases e
end
/-- the parts of a law's net -/
def PartsAt (H : Hp) (p : Addr) (n : NetP) : Prop := ∃ fa ra ha, H p = some (.tup [.ref fa, .int n.en, .ref ra, .ref ha, .int n.out]) ∧ TL7 H fa (n.fs.map FormP.vs) ∧ TL7 H ra (n.rows.map Row.vs) ∧ TL7 H ha (n.holds.map Hold.vs)
theorem PartsAt.same {H H' : Hp} {p : Addr} {n : NetP} (h : PartsAt H p n) (s : Same H H') : PartsAt H' p n := by
  obtain ⟨fa, ra, ha, e, x, y, z⟩ := h
  exact ⟨fa, ra, ha, s _ _ e, x.same s, y.same s, z.same s⟩
theorem PartsAt.but {H H' : Hp} {p a : Addr} {n : NetP} {ys : List V} (h : PartsAt H p n) (s : SameBut a H H') (ha : H a = some (.lst ys)) (n1 : ∀ fa ra hb, H p = some (.tup [.ref fa, .int n.en, .ref ra, .ref hb, .int n.out]) → fa ≠ a ∧ ra ≠ a ∧ hb ≠ a) : PartsAt H' p n := by
  obtain ⟨fa, ra, hb, e, x, y, z⟩ := h
  obtain ⟨m1, m2, m3⟩ := n1 fa ra hb e
  exact ⟨fa, ra, hb, s _ _ (ne_of e ha (fun z => nomatch z)) e, x.but s ha m1, y.but s ha m2, z.but s ha m3⟩
def HoldOk (fs : List FormP) (rows : List Row) (h : Hold) : Prop := h.k < fs.length ∧ inR (frm fs h.k).w h.s = true ∧ h.s.natAbs < 2 ^ 70 ∧ ∃ x, rows[h.l]? = some (.keep h.k x)
theorem HoldOk.more {fs : List FormP} {rows t : List Row} {h : Hold} (k : HoldOk fs rows h) : HoldOk fs (rows ++ t) h := by
  obtain ⟨a, b, c, x, e⟩ := k
  refine ⟨a, b, c, x, ?_⟩
  rw [List.getElem?_append_left (List.getElem?_eq_some_iff.mp e).1]
  exact e
def spLNet : Sp := fun vs H Q _ => ∃ a : Addr, vs = [.ref a] ∧ WellAt H a 3 ∧ ∀ (n : NetP) (p : Addr) (H' : Hp), NetOk n → (∀ h ∈ n.holds, h.s.natAbs < 2 ^ 70) → Mild n → n.rows.length ≤ 26 → WellAt H' a 300 → SameBut a H H' → H p = none → (∀ G, SameBut a H' G → PartsAt G p n) → Q (.ref p) H'
theorem sixR {r : Int} (h0 : 0 ≤ r) (h1 : r < 6) : ∃ R : Int, atI [V.int 5, V.int 5, V.int 20, V.int 20, V.int 20, V.int 60] r = some (.int R) ∧ 5 ≤ R ∧ R ≤ 60 ∧ (r ≠ 5 → R ≤ 20) ∧ (r < 2 → R ≤ 5) := by
  rcases (by omega : r = 0 ∨ r = 1 ∨ r = 2 ∨ r = 3 ∨ r = 4 ∨ r = 5) with rfl | rfl | rfl | rfl | rfl | rfl
  · exact ⟨5, rfl, by omega, by omega, fun _ => by omega, fun _ => by omega⟩
  · exact ⟨5, rfl, by omega, by omega, fun _ => by omega, fun _ => by omega⟩
  · exact ⟨20, rfl, by omega, by omega, fun _ => by omega, fun z => absurd z (by decide)⟩
  · exact ⟨20, rfl, by omega, by omega, fun _ => by omega, fun z => absurd z (by decide)⟩
  · exact ⟨20, rfl, by omega, by omega, fun _ => by omega, fun z => absurd z (by decide)⟩
  · exact ⟨60, rfl, by omega, by omega, (fun z => absurd rfl z), fun z => absurd z (by decide)⟩
/-- so many rows of chance -/
theorem pickN {x y so : Int} (A B : Int) (x0 : 0 ≤ x) (x1 : x < A) (y0 : 0 ≤ y) (y1 : y < B) : ∃ n : Nat, atI [V.int x, V.int y] (if decide (V.int so = V.int 5) = true then 1 else 0) = some (.int (n : Int)) ∧ (so = 5 → (n : Int) < B) ∧ (so ≠ 5 → (n : Int) < A) := by
  by_cases h : so = 5
  · refine ⟨y.toNat, ?_, fun _ => by omega, fun z => absurd h z⟩
    rw [h, decide_eq_true rfl, show ((y.toNat : Nat) : Int) = y by omega]
    exact a1
  · refine ⟨x.toNat, ?_, fun z => absurd z h, fun _ => by omega⟩
    rw [decide_eq_false (fun z => h (V.int.inj z)), show ((x.toNat : Nat) : Int) = x by omega]
    exact a0

theorem beg_small {hc : Nat} {rows : List Row} (h : ∀ r ∈ rows, BegOk hc r) : ∀ r ∈ rows, r.small := fun r hr => by
  have := h r hr
  cases r <;> first | trivial | exact this.elim
theorem mix_small {n0 : Nat} {M : Int} {ex : List Row} (h : ∀ r ∈ ex, MixRow n0 M r) : ∀ r ∈ ex, r.small := fun r hr => by
  have := h r hr
  cases r <;> first | trivial | exact this.elim | exact this.2.2
theorem app_small {a b : List Row} (ha : ∀ r ∈ a, r.small) (hb : ∀ r ∈ b, r.small) : ∀ r ∈ a ++ b, r.small := fun r hr => by
  rcases List.mem_append.mp hr with h | h
  · exact ha r h
  · exact hb r h
theorem one_small {r : Row} (h : r.small) : ∀ x ∈ [r], x.small := fun x hx => by
  rw [List.mem_singleton.mp hx]
  exact h
end E1

namespace E1
open PySem PySem.Spec PyProof.Rows L2
def Kd7.isKp : Kd7 → Bool
  | .keep => true
  | _ => false
theorem kp_no {k : Kd7} (h : k ≠ .keep) : k.isKp = false := by
  cases k <;> first | rfl | exact absurd rfl h

def kpAt (rows : List Row) (i : Nat) : Bool := match rows[i]? with
  | some (.keep _ _) => true
  | _ => false
/-- what went at a row -/
def wentV (n : NetP) (nums : List Int) (f a : Nat) : Int :=
  stepsAt (frm n.fs f).pt (frm n.fs f).m (nums.getD a 0) (n.pts.getD a 0) - wordF (frm n.fs f).w (frm n.fs f).st (stepsAt (frm n.fs f).pt (frm n.fs f).m (nums.getD a 0) (n.pts.getD a 0))
def wentAt (n : NetP) (nums : List Int) (i : Nat) : Bool := match n.rows[i]? with
  | some (.keep f a) => !decide (V.int (wentV n nums f a) = V.int 0)
  | _ => false
def keepsOf (rows : List Row) : List Nat := (List.range rows.length).filter (kpAt rows)
def oversOf (n : NetP) (nums : List Int) : List Nat := (List.range n.rows.length).filter (wentAt n nums)
theorem filt_one (p : Nat → Bool) (i : Nat) : [i].filter p = if p i = true then [i] else [] := by
  rw [List.filter_cons]
  rfl
theorem range_filt (p : Nat → Bool) (i : Nat) : (List.range (i + 1)).filter p = (List.range i).filter p ++ (if p i = true then [i] else []) := by
  rw [List.range_succ, List.filter_append, filt_one]
theorem went_kp {n : NetP} {nums : List Int} {i : Nat} (h : wentAt n nums i = true) : kpAt n.rows i = true := by
  unfold wentAt at h
  split at h
  · rename_i f a e
    unfold kpAt
    rw [e]
  · cases h
theorem overs_is (n : NetP) (nums : List Int) : (keepsOf n.rows).filter (wentAt n nums) = oversOf n nums := by
  unfold keepsOf oversOf
  rw [List.filter_filter]
  refine List.filter_congr fun i _ => ?_
  cases h : wentAt n nums i with
  | false => rfl
  | true => exact went_kp h
theorem keeps_at {rows : List Row} {i : Nat} (h : i ∈ keepsOf rows) : ∃ f a, rows[i]? = some (.keep f a) := by
  have := (List.mem_filter.mp h).2
  unfold kpAt at this
  split at this
  · rename_i f a e
    exact ⟨f, a, e⟩
  · cases this
theorem kp_of {rows : List Row} {i : Nat} {r : Row} (e : rows[i]? = some r) : kpAt rows i = r.kd.isKp := by
  unfold kpAt
  rw [e]
  cases r <;> rfl

def spKeepsM (C CN : Addr) : Sp := fun vs H Q _ => ∃ (p : Addr) (n : NetP), vs = [.ref p] ∧ NetAt C CN H p n ∧ ∀ l H', H l = none → Same H H' → H' l = some (.lst ((keepsOf n.rows).map nI)) → Q (.ref l) H'
structure NumsOk (n : NetP) (nums : List Int) : Prop where
  len : nums.length = n.rows.length
  sz : ∀ k ∈ nums, k.natAbs < 2 ^ 900000
def spWent (C CN : Addr) : Sp := fun vs H Q _ => ∃ (p na : Addr) (n : NetP) (i : Nat) (nums : List Int) (f a : Nat), vs = [.ref p, .int i, .ref na] ∧ NetAt C CN H p n ∧ n.rows[i]? = some (.keep f a) ∧ H na = some (.lst (nums.map V.int)) ∧ NumsOk n nums ∧ ∀ H', Same H H' → Q (.bl (wentAt n nums i)) H'
def spOvers (C CN : Addr) : Sp := fun vs H Q _ => ∃ (p na : Addr) (n : NetP) (nums : List Int), vs = [.ref p, .ref na] ∧ NetAt C CN H p n ∧ H na = some (.lst (nums.map V.int)) ∧ NumsOk n nums ∧ ∀ l H', H l = none → Same H H' → H' l = some (.lst ((oversOf n nums).map nI)) → Q (.ref l) H'
section
variable {P : Program} {w : World} {K : PySem.W.Frag} {mg : Str → Option Value} {base : Heap}
theorem sc_Net_keeps : FnScope ["self", "at", "row"] ["self"] (defScope s_Net_keeps) := ⟨rfl, rfl, rfl, by decide +kernel, rfl, by decide +kernel, by decide +kernel⟩
theorem ok_Net_keeps {f : Addr} {fd : FuncData} {k : Nat} {C CN : Addr} (TN : NTxt K mg CN) (F : Fun K "keeps" "Net.keeps" s_Net_keeps f fd) (z : Zs mg) : FnOk P w K mg base CX0 (k + 1) f fd ["self"] (spKeepsM C CN) := by
  refine F.ok sc_Net_keeps (fun vs H Q E h => ?_) (fun cdv A outer s H vs Q E hr h => ?_)
  · obtain ⟨p, n, rfl, _⟩ := h
    rfl
  · obtain ⟨p, n, rfl, ⟨ok, dx, fl, rl, hl2, pl, fv, rv, hv, b⟩, q⟩ := h
    refine ⟨_, (pss_one (ps_ret (pe_lc (own := [("at", 1), ("row", 2)]) (g := gTup K 2 (gCons (gName 1) (gCons (gName 2) gNil))) (te := (tVar 1)) (tt := (tTest (tOp rEq (tOp (rIxT K) (tVar 2) (tC (.int 0))) (tC (.str "keep"))))) (by rfl) sc_Net_keeps.nd (pi_enum (by rfl) z.enumerate (pa_cons (pe_fld (pv 0) rfl) pa_nil)) (blkOk_by (own := [("at", 1), ("row", 2)]) (N := ["self", "at", "row"]) (sc := defScope s_Net_keeps) (by decide +kernel)) (fun _ _ _ _ _ => by exact (pg_tup (by rfl) (pgs_cons (pg_name (i := 1) sc_Net_keeps.nd rfl (.inl rfl)) (pgs_cons (pg_name (i := 2) sc_Net_keeps.nd rfl (.inl rfl)) pgs_nil)))) (fun _ _ _ _ _ => by exact (pts_one (pt_cmpR op_eq (pe_ix ix_tup (pv 2) pe_int (fun _ _ => rfl)) pe_str (nomark _)))) (fun _ _ _ _ _ => by exact (pv 1))))), ?_⟩
    have lr := b.rs.rlen
    have r60 := ok.r2
    refine ⟨_, rfl, p, CN, dx, _, _, rfl, b.ob, TN.cl, TN.n_row_list, nl_r, rl, _, rfl, SqL.of b.ra, fun D hD => ?_⟩
    refine lc_it (walk_enum (K := K) (a := rl) (xs := rv)) (fun i G => Same H G ∧ G D = some (.lst (((List.range i).filter (kpAt n.rows)).map nI))) ⟨same_new hD, upd_same⟩ (fun i G _ hP => SqL.of (hP.1 _ _ b.ra)) (fun i v G G' hi hP hY => ?_) (fun G hP => ?_)
    · obtain ⟨s1, hd⟩ := hP
      obtain ⟨Tp, u, v', rfl, nT, rfl, e1, e2⟩ := hY
      cases e1
      obtain ⟨rp, xs, rfl, ex, hrp⟩ := b.rs.get e2
      rw [List.getElem?_map] at ex
      obtain ⟨r, er, rfl⟩ := Option.map_eq_some_iff.mp ex
      have sN := same_new (o := .tup [.int (i : Nat), .ref rp]) nT
      have S := s1.trans sN
      have ek := kp_of er
      have lt : (((List.range i).filter (kpAt n.rows)).map nI).length < sizeLine := by
        rw [List.length_map]
        refine sl_lt (Nat.le_trans (List.length_filter_le _ _) ?_)
        rw [List.length_range]
        omega
      refine ⟨Tp, _, rfl, SqT.of upd_same, rfl, _, _, rfl, _, _, rfl, rfl, rfl, ?_⟩
      refine ⟨_, rfl, rp, _, 0, .str r.kd.s, rfl, rfl, SqT.of (S _ _ hrp), atI_nat (j := 0) r.vs0, rfl, _, rfl, ?_⟩
      by_cases k1 : r.kd = .keep
      · refine iteC (d := true) (by rw [k1]; exact decide_eq_true rfl) (iteT ⟨_, rfl, _, sN _ _ hd, lt, fun c o e => ?_, ?_⟩)
        · rw [upd_ne (ne_of_none e hD)]
          exact S _ _ e
        · rw [upd_same, range_filt, ek, k1, if_pos (show Kd7.keep.isKp = true from rfl), List.map_append]
          rfl
      · refine iteC (d := false) (decide_eq_false (fun z => kd_ne _ _ k1 (V.str.inj z))) (iteF ⟨S, ?_⟩)
        rw [range_filt, ek, kp_no k1, if_neg (by decide), List.append_nil]
        exact sN _ _ hd
    · obtain ⟨s1, hd⟩ := hP
      rw [lr] at hd
      exact q D _ hD s1 hd
theorem sc_went_over : FnScope ["net", "row", "numbers", "word", "form", "at"] ["net", "row", "numbers"] (defScope s_went_over) := ⟨rfl, rfl, rfl, by decide +kernel, rfl, by decide +kernel, by decide +kernel⟩
theorem ok_went_over {f : Addr} {fd : FuncData} {C CN : Addr} (T : FTxt K mg C) (TN : NTxt K mg CN) (F : Fun K "went_over" "went_over" s_went_over f fd) (n_forms : CalM P w K mg base 1 CN "forms" ["self"] (spFormsM C CN)) (n_rows : CalM P w K mg base 1 CN "rows" ["self"] (spRowsM C CN)) (n_points : CalM P w K mg base 1 CN "points" ["self"] (spPtsM C CN)) (m_kept_at : CalM P w K mg base 5 C "kept_at" ["self", "number", "point"] (spKeptAt C)) : FnOk P w K mg base CX0 6 f fd ["net", "row", "numbers"] (spWent C CN) := by
  refine F.ok sc_went_over (fun vs H Q E h => ?_) (fun cdv A outer s H vs Q E hr h => ?_)
  · obtain ⟨p, na, n, i, nums, f, a, rfl, _⟩ := h
    rfl
  · obtain ⟨p, na, n, i, nums, f, a, rfl, hn, er, hna, no, q⟩ := h
    refine ⟨_, (pss_cons (ps_asg (pe_ix ix_list (pe_calm0 (pv 0) TN.cl n_rows hr) (pv 1) (fun _ _ => rfl)) (pg_tup (by rfl) (pgs_cons (pg_name (i := 3) sc_went_over.nd rfl (.inl rfl)) (pgs_cons (pg_name (i := 4) sc_went_over.nd rfl (.inl rfl)) (pgs_cons (pg_name (i := 5) sc_went_over.nd rfl (.inl rfl)) pgs_nil)))))
      (pss_one (ps_ret (pe_cmpR op_ne (pe_ix ix_tup (pe_calm (pe_ix ix_list (pe_calm0 (pv 0) TN.cl n_forms hr) (pv 4) (fun _ _ => rfl)) T.cl m_kept_at hr (pa_cons (pe_ix ix_list (pv 2) (pv 5) (fun _ _ => rfl)) (pa_cons (pe_ix ix_list (pe_calm0 (pv 0) TN.cl n_points hr) (pv 5) (fun _ _ => rfl)) pa_nil))) pe_int (fun _ _ => rfl)) pe_int (nomark _))))), ?_⟩
    obtain ⟨ok, dx, fl, rl, hl, pl, fv, rv, hv, b⟩ := id hn
    obtain ⟨hf, ha⟩ := ok.ro i _ er
    have il := (List.getElem?_eq_some_iff.mp er).1
    have lp := pts_len n
    refine ⟨_, rfl, p, dx, _, rfl, b.ob, nl_no (by decide +kernel), p, n, rfl, hn, fun rl2 rv2 H1 hr1 s1 h_rl2 hrr => ?_⟩
    obtain ⟨rp, erp, hrp⟩ := hrr.at (i := i) (xs := (Row.keep f a).vs) (by rw [List.getElem?_map, er]; rfl)
    refine ⟨_, rfl, rl2, _, _, .ref rp, rfl, rfl, SqL.of h_rl2, atI_nat erp, rp, _, rfl, SqT.of hrp, rfl, _, _, rfl, _, _, rfl, _, _, rfl, rfl, ?_⟩
    refine ⟨_, rfl, p, dx, _, rfl, s1 _ _ b.ob, nl_no (by decide +kernel), p, n, rfl, hn.same s1, fun fl2 fv2 H2 hf1 s2 h_fl2 hff => ?_⟩
    obtain ⟨fp, efp, hfp⟩ := hff.frm hf
    obtain ⟨dxf, hof⟩ := hfp.ob
    have S2 := s1.trans s2
    refine ⟨_, rfl, fl2, _, _, .ref fp, rfl, rfl, SqL.of h_fl2, atI_nat efp, fp, dxf, _, rfl, hof, fl_no (by decide +kernel), _, rfl, _, rfl, na, _, _, _, rfl, rfl, SqL.of (S2 _ _ hna), ints_at (by rw [no.len]; omega), ?_⟩
    refine ⟨_, rfl, p, dx, _, rfl, S2 _ _ b.ob, nl_no (by decide +kernel), p, n, rfl, hn.same S2, fun pl2 H3 hp1 s3 h_pl2 => ?_⟩
    have hb : -200 ≤ n.pts.getD a 0 ∧ n.pts.getD a 0 ≤ 200 := ok.po _ (by
      rw [List.getD_eq_getElem?_getD, List.getElem?_eq_getElem (by omega)]
      exact List.getElem_mem _)
    refine ⟨_, rfl, pl2, _, _, _, rfl, rfl, SqL.of h_pl2, ints_at (by omega), fp, _, _, _, _, _, _, rfl, hfp.same s3, hb.1, hb.2, getD_lt no.sz (Nat.pow_pos (by decide)), fun t H4 ht s4 h_t => ?_⟩
    refine ⟨t, _, 1, _, rfl, rfl, SqT.of h_t, a1, rfl, ?_⟩
    have := q H4 ((S2.trans s3).trans s4)
    have e : wentAt n nums i = !decide (V.int (wentV n nums f a) = V.int 0) := by
      unfold wentAt
      rw [er]
    rw [e] at this
    exact this
theorem sc_overs : FnScope ["net", "numbers", "row"] ["net", "numbers"] (defScope s_overs) := ⟨rfl, rfl, rfl, by decide +kernel, rfl, by decide +kernel, by decide +kernel⟩
theorem ok_overs {f : Addr} {fd : FuncData} {C CN : Addr} (TN : NTxt K mg CN) (F : Fun K "overs" "overs" s_overs f fd) (n_keeps : CalM P w K mg base 1 CN "keeps" ["self"] (spKeepsM C CN)) (c_went_over : Cal P w K mg base 6 "went_over" ["net", "row", "numbers"] (spWent C CN)) : FnOk P w K mg base CX0 7 f fd ["net", "numbers"] (spOvers C CN) := by
  refine F.ok sc_overs (fun vs H Q E h => ?_) (fun cdv A outer s H vs Q E hr h => ?_)
  · obtain ⟨p, na, n, nums, rfl, _⟩ := h
    rfl
  · obtain ⟨p, na, n, nums, rfl, hn, hna, no, q⟩ := h
    refine ⟨_, (pss_one (ps_ret (pe_lc (own := [("row", 2)]) (g := gName 2) (te := (tVar 2)) (tt := (tB (tCall (spWent C CN) [] E0 (tCons (tVar 0) (tCons (tVar 2) (tCons (tVar 1) tNil)))))) (by rfl) sc_overs.nd (pi_list (pe_calm0 (pv 0) TN.cl n_keeps hr)) (blkOk_by (own := [("row", 2)]) (N := ["net", "numbers", "row"]) (sc := defScope s_overs) (by decide +kernel)) (fun _ _ _ _ _ => by exact (pg_name (i := 2) sc_overs.nd rfl (.inl rfl))) (fun _ _ _ _ _ => by exact (pts_one (pt_val (pe_cal c_went_over hr (pa_cons (pv 0) (pa_cons (pv 2) (pa_cons (pv 1) pa_nil))))))) (fun _ _ _ _ _ => by exact (pv 2))))), ?_⟩
    obtain ⟨ok, dx, fl, rl, hl, pl, fv, rv, hv, b⟩ := id hn
    have r60 := ok.r2
    have kl : (keepsOf n.rows).length ≤ 60 := by
      refine Nat.le_trans (List.length_filter_le _ _) ?_
      rw [List.length_range]
      omega
    refine ⟨_, rfl, p, dx, _, rfl, b.ob, nl_no (by decide +kernel), p, n, rfl, hn, fun kl2 H1 hk1 s1 h_kl => ?_⟩
    refine ⟨kl2, rfl, ⟨_, SqL.of h_kl⟩, fun D hD => ?_⟩
    refine lc_it (walk_list (K := K) (a := kl2) (xs := (keepsOf n.rows).map nI)) (fun i G => Same H1 G ∧ G D = some (.lst ((((keepsOf n.rows).take i).filter (wentAt n nums)).map nI))) ⟨same_new hD, upd_same⟩ (fun i G _ hP => SqL.of (hP.1 _ _ h_kl)) (fun i v G G' hi hP hY => ?_) (fun G hP => ?_)
    · obtain ⟨s2, hd⟩ := hP
      obtain ⟨rfl, hx⟩ := hY
      rw [List.getElem?_map] at hx
      obtain ⟨j, ej, rfl⟩ := Option.map_eq_some_iff.mp hx
      obtain ⟨f, a, er⟩ := keeps_at (List.mem_of_getElem? ej)
      have S := s1.trans s2
      have et : ((keepsOf n.rows).take (i + 1)).filter (wentAt n nums) = ((keepsOf n.rows).take i).filter (wentAt n nums) ++ (if wentAt n nums j = true then [j] else []) := by
        rw [List.take_add_one, ej, List.filter_append, Option.toList_some, filt_one]
      refine ⟨rfl, _, rfl, _, rfl, _, rfl, p, na, n, j, nums, f, a, rfl, hn.same S, er, S _ _ hna, no, fun H3 s3 => ⟨_, rfl, ite2 (fun c => ?_) (fun c => ?_)⟩⟩
      · refine ⟨_, rfl, _, s3 _ _ hd, ?_, fun b' o e => ?_, ?_⟩
        · rw [List.length_map]
          refine sl_lt (Nat.le_trans (List.length_filter_le _ _) ?_)
          rw [List.length_take]
          omega
        · rw [upd_ne (ne_of_none e hD)]
          exact s3 _ _ (s2 _ _ e)
        · rw [upd_same, et, if_pos c, List.map_append]
          rfl
      · refine ⟨s2.trans s3, ?_⟩
        rw [et, if_neg c, List.append_nil]
        exact s3 _ _ hd
    · obtain ⟨s2, hd⟩ := hP
      rw [List.length_map, List.take_length, overs_is] at hd
      exact q D _ (s1.free hD) (s1.trans s2) hd
end
end E1

namespace E1
open PySem PySem.Spec PyProof.Rows L2

def sp2Form : Sp := fun vs H Q _ => ∃ (a wl : Addr) (ws : List (Option Int)) (c : Int), vs = [.ref a, .ref wl] ∧ H wl = some (.lst (ws.map wV)) ∧ 1 ≤ ws.length ∧ ws.length ≤ 100 ∧ (∀ w ∈ ws, WOk w) ∧ WellAt H a c ∧ wl ≠ a ∧ 0 ≤ c ∧ c ≤ 10000 ∧ ∀ (f : FormP) (p : Addr) (H' : Hp), f.Ok → f.w ∈ ws → -4 ≤ f.pt → f.pt ≤ 5 → SameBut a H H' → WellAt H' a (c + 4) → p ≠ a → H p = none → H' p = some (.tup f.vs) → Q (.ref p) H'
def sp2Word : Sp := fun vs H Q _ => ∃ (a p : Addr) (f : FormP) (c : Int), vs = [.ref p, .ref a] ∧ H p = some (.tup f.vs) ∧ f.Ok ∧ WellAt H a c ∧ 0 ≤ c ∧ c ≤ 10000 ∧ ∀ (s : Int) (H' : Hp), inR f.w s = true → s.natAbs < 2 ^ 110 → SameBut a H H' → WellAt H' a (c + 3) → Q (.int s) H'
def sp2Coef : Sp := fun vs H Q _ => ∃ (a : Addr) (c : Int), vs = [.ref a] ∧ WellAt H a c ∧ 0 ≤ c ∧ c ≤ 10000 ∧ ∀ (s : Int) (H' : Hp), s.natAbs < 9223372036854775808 → SameBut a H H' → WellAt H' a (c + 3) → Q (.int s) H'
def sp2Leaf : Sp := fun vs H Q _ => ∃ (a kl : Addr) (ks : List Nat) (c : Int), vs = [.ref a, .ref kl] ∧ H kl = some (.lst (ks.map nI)) ∧ ks.length ≤ 5 ∧ WellAt H a c ∧ 0 ≤ c ∧ c ≤ 10000 ∧ ∀ (r : Row) (p : Addr) (H' : Hp), BegOk ks.length r → SameBut a H H' → WellAt H' a (c + 1) → p ≠ a → H p = none → H' p = some (.tup r.vs) → Q (.ref p) H'
def sp2Begun : Sp := fun vs H Q _ => ∃ (a kl : Addr) (ks : List Nat) (c : Int), vs = [.ref a, .ref kl] ∧ H kl = some (.lst (ks.map nI)) ∧ ks.length ≤ 5 ∧ WellAt H a c ∧ kl ≠ a ∧ 0 ≤ c ∧ c ≤ 9000 ∧ ∀ (rows : List Row) (l : Addr) (H' : Hp), (∀ r ∈ rows, BegOk ks.length r) → 1 ≤ rows.length → rows.length ≤ 8 → SameBut a H H' → WellAt H' a (c + 30) → l ≠ a → H l = none → TL7 H' l (rows.map Row.vs) → Q (.ref l) H'
theorem atI_mem {ws : List V} {r : Int} (h0 : 0 ≤ r) (h1 : r < ws.length) : ∃ v ∈ ws, atI ws r = some v := by
  obtain ⟨n, rfl⟩ : ∃ n : Nat, r = n := ⟨r.toNat, by omega⟩
  have hl : n < ws.length := by omega
  exact ⟨ws[n], List.getElem_mem hl, atI_nat (List.getElem?_eq_getElem hl)⟩
section
variable {P : Program} {w : World} {K : PySem.W.Frag} {mg : Str → Option Value} {base : Heap}
theorem sc__law_form : FnScope ["_law_well_here", "_law_widths", "_law_width", "_law_manner"] ["_law_well_here", "_law_widths"] (defScope s__law_form) := ⟨rfl, rfl, rfl, by decide +kernel, rfl, by decide +kernel, by decide +kernel⟩
theorem ok__law_form {f : Addr} {fd : FuncData} (F : Fun K "_law_form" "_law_form" s__law_form f fd) (z : Zs mg) (c__law_draw : Cal P w K mg base 1 "_law_draw" ["_law_well_here", "_law_many"] spDraw) : FnOk P w K mg base CX0 2 f fd ["_law_well_here", "_law_widths"] sp2Form := by
  refine F.ok sc__law_form (fun vs H Q E h => ?_) (fun cdv A outer s H vs Q E hr h => ?_)
  · obtain ⟨a, wl, ws, c, rfl, _⟩ := h
    rfl
  · obtain ⟨a, wl, ws, c, rfl, hwl, l1, l2, wok, hw, nwa, c0, c1, q⟩ := h
    refine ⟨_, (pss_cons (ps_set (i := 2) sc__law_form.nd rfl (.inl rfl) (pe_ix ix_list (pv 1) (pe_cal c__law_draw hr (pa_cons (pv 0) (pa_cons (pe_callB call_len_seq (by rfl) z.len PySem.boot_len (pa_cons (pv 1) pa_nil)) pa_nil))) (fun _ _ => rfl)))
      (pss_cons (ps_set (i := 3) sc__law_form.nd rfl (.inl rfl) (pe_ix ix_list (pe_lst (pa_cons pe_str (pa_cons pe_str (pa_cons pe_str (pa_cons pe_str (pa_cons pe_str (pa_cons pe_str (pa_cons pe_str pa_nil)))))))) (pe_cal c__law_draw hr (pa_cons (pv 0) (pa_cons pe_int pa_nil))) (fun _ _ => rfl)))
      (pss_one (ps_ret (pe_tup (pa_cons (pv 2) (pa_cons (pe_op op_sub (pe_cal c__law_draw hr (pa_cons (pv 0) (pa_cons pe_int pa_nil))) pe_int) (pa_cons (pv 3) (pa_cons (pe_ix ix_list (pe_lst (pa_cons pe_str (pa_cons pe_str pa_nil))) (pe_cal c__law_draw hr (pa_cons (pv 0) (pa_cons pe_int pa_nil))) (fun _ _ => rfl)) pa_nil))))))))), ?_⟩
    obtain ⟨xs, hxs⟩ := hw.lst
    have lm : (ws.map wV).length = ws.length := List.length_map ..
    refine ⟨_, rfl, _, rfl, _, rfl, wl, _, rfl, .inl (SqL.of hwl), a, c, _, rfl, hw, by omega, by omega, Nat.lt_of_le_of_lt (show _ ≤ 1000 by omega) (by decide +kernel), fun r1 H1 r10 r11 d1 e1 w1 => ?_⟩
    obtain ⟨v, hv, iv⟩ := atI_mem (ws := ws.map wV) r10 r11
    obtain ⟨w, hwm, rfl⟩ := List.mem_map.mp hv
    refine ⟨wl, _, r1, _, rfl, rfl, SqL.of (d1 _ _ nwa hwl), iv, ?_⟩
    refine ⟨(by show 7 ≤ sizeLine; decide), fun l5 hl5 => ?_⟩
    have q5 := same_new (o := .lst [V.str "down", V.str "up", V.str "in", V.str "out", V.str "half", V.str "even", V.str "far"]) hl5
    have n5 := w1.ne hl5
    refine ⟨_, rfl, a, c + 1, 7, rfl, (w1.same q5), by omega, by decide, by decide +kernel, fun r6 H6 r60 r61 d6 e6 w6 => ?_⟩
    obtain ⟨m, hm⟩ := sevenI r60 r61
    refine ⟨l5, _, r6, _, rfl, rfl, SqL.of (d6 _ _ n5 upd_same), hm, ?_⟩
    have D6 : SameBut a H H6 := d1.trans ((SameBut.of q5).trans d6)
    refine ⟨_, rfl, _, rfl, a, c + 1 + 1, 10, rfl, w6, by omega, by decide, by decide +kernel, fun r7 H7 r70 r71 d7 e7 w7 => ⟨_, _, rfl, rfl, _, rfl, (by show 2 ≤ sizeLine; decide), fun l8 hl8 => ?_⟩⟩
    have q8 := same_new (o := .lst [V.str "wrap", V.str "stop"]) hl8
    have n8 := w7.ne hl8
    refine ⟨_, rfl, a, c + 1 + 1 + 1, 2, rfl, (w7.same q8), by omega, by decide, by decide +kernel, fun r9 H9 r90 r91 d9 e9 w9 => ?_⟩
    obtain ⟨st, hst⟩ := endI r90 r91
    refine ⟨l8, _, r9, _, rfl, rfl, SqL.of (d9 _ _ n8 upd_same), hst, (by show 4 ≤ sizeLine; decide), fun p hp => ?_⟩
    have D9 : SameBut a H H9 := D6.trans (d7.trans ((SameBut.of q8).trans d9))
    have np := w9.ne hp
    refine q ⟨w, r7 - 4, m, st⟩ p _ ⟨wok w hwm, by show -64 ≤ r7 - 4; omega, by show r7 - 4 ≤ 64; omega⟩ hwm (by show -4 ≤ r7 - 4; omega) (by show r7 - 4 ≤ 5; omega) (D9.trans (.of (same_new hp))) ((w9.same (same_new hp)).mono (by omega)) np (same_free D9 hxs hp np) upd_same
theorem sc__law_word : FnScope ["_law_form_here", "_law_well_here", "_law_width", "_law_wide", "_law_mid", "_law_way"] ["_law_form_here", "_law_well_here"] (defScope s__law_word) := ⟨rfl, rfl, rfl, by decide +kernel, rfl, by decide +kernel, by decide +kernel⟩
theorem ok__law_word {f : Addr} {fd : FuncData} (F : Fun K "_law_word" "_law_word" s__law_word f fd) (c__law_draw : Cal P w K mg base 1 "_law_draw" ["_law_well_here", "_law_many"] spDraw) : FnOk P w K mg base CX0 2 f fd ["_law_form_here", "_law_well_here"] sp2Word := by
  refine F.ok sc__law_word (fun vs H Q E h => ?_) (fun cdv A outer s H vs Q E hr h => ?_)
  · obtain ⟨a, p, f, c, rfl, _⟩ := h
    rfl
  · obtain ⟨a, p, f, c, rfl, hp, fo, hw, c0, c1, q⟩ := h
    refine ⟨_, (pss_cons (ps_set (i := 2) sc__law_word.nd rfl (.inl rfl) (pe_ix ix_tup (pv 0) pe_int (fun _ _ => rfl)))
      (pss_cons (ps_if (pt_cmpR op_isN (pv 2) pe_non (nomark _)) (pss_cons (ps_set (i := 3) sc__law_word.nd rfl (.inl rfl) (pe_ix ix_list (pe_lst (pa_cons pe_int (pa_cons (pe_op op_pow pe_int pe_int) (pa_cons (pe_op op_pow pe_int pe_int) pa_nil)))) (pe_cal c__law_draw hr (pa_cons (pv 1) (pa_cons pe_int pa_nil))) (fun _ _ => rfl)))
      (pss_one (ps_ret (pe_op op_sub (pe_cal c__law_draw hr (pa_cons (pv 1) (pa_cons (pe_op op_add (pe_op op_mul pe_int (pv 3)) pe_int) pa_nil))) (pv 3))))) pss_nil)
      (pss_cons (ps_set (i := 4) sc__law_word.nd rfl (.inl rfl) (pe_op op_shlW pe_int (pe_op op_sub (pv 2) pe_int)))
      (pss_cons (ps_set (i := 5) sc__law_word.nd rfl (.inl rfl) (pe_cal c__law_draw hr (pa_cons (pv 1) (pa_cons pe_int pa_nil))))
      (pss_cons (ps_if (pt_cmpR op_lt (pv 5) pe_int (nomark _)) (pss_one (ps_ret (pe_ix ix_list (pe_lst (pa_cons (pe_op op_sub pe_int (pv 4)) (pa_cons (pe_op op_sub (pv 4) pe_int) pa_nil))) (pv 5) (fun _ _ => rfl)))) pss_nil)
      (pss_cons (ps_if (pt_cmpR op_gt (pv 2) pe_int (nomark _)) (pss_one (ps_ret (pe_op op_sub (pe_cal c__law_draw hr (pa_cons (pv 1) (pa_cons pe_int pa_nil))) pe_int))) pss_nil)
      (pss_one (ps_ret (pe_op op_sub (pe_cal c__law_draw hr (pa_cons (pv 1) (pa_cons (pe_op op_mul pe_int (pv 4)) pa_nil))) (pv 4)))))))))), ?_⟩
    obtain ⟨w, pt, m, st⟩ := f
    have wo := fo.wo
    refine ⟨_, rfl, p, _, 0, wV w, rfl, rfl, SqT.of hp, a0, ?_⟩
    cases w with
    | none =>
      refine ⟨_, rfl, rfl, _, rfl, iteT ?_⟩
      have b1 : ((10 : Int) ^ (6 : Int).toNat) = 1000000 := by decide
      have b2 : ((10 : Int) ^ (30 : Int).toNat) = 1000000000000000000000000000000 := by decide
      refine ⟨_, _, rfl, rfl, ⟨by decide, by decide, by decide⟩, _, _, rfl, rfl, ⟨by decide, by decide, by decide⟩, (by show 3 ≤ sizeLine; decide), fun l hl => ?_⟩
      have n3 := hw.ne hl
      have q3 := same_new (o := .lst [V.int 10, V.int (10 ^ (6 : Int).toNat), V.int (10 ^ (30 : Int).toNat)]) hl
      refine ⟨_, rfl, a, c, 3, rfl, (hw.same q3), by omega, by decide, by decide +kernel, fun r1 H1 r10 r11 d1 e1 w1 => ?_⟩
      obtain ⟨v, i3, o3⟩ := threeI (x := V.int 10) (y := V.int (10 ^ (6 : Int).toNat)) (z := V.int (10 ^ (30 : Int).toNat)) r10 r11
      obtain ⟨k, rfl, k0, k1⟩ : ∃ k : Int, v = .int k ∧ 1 ≤ k ∧ k ≤ 1000000000000000000000000000000 := by
        rcases o3 with rfl | rfl | rfl
        · exact ⟨_, rfl, by omega, by omega⟩
        · exact ⟨_, rfl, by omega, by omega⟩
        · exact ⟨_, rfl, by omega, by omega⟩
      refine ⟨l, _, r1, _, rfl, rfl, SqL.of (d1 _ _ n3 upd_same), i3, ?_⟩
      refine ⟨_, rfl, _, rfl, _, _, rfl, rfl, .inl ⟨by decide, by decide⟩, _, _, rfl, rfl, a, c + 1, 2 * k + 1, rfl, w1, by omega, by omega, Nat.lt_of_lt_of_le (show _ < 2 ^ 110 by omega) (Nat.pow_le_pow_right (by decide) (by decide)), fun r2 H2 r20 r21 d2 e2 w2 => ⟨_, rfl, _, _, rfl, rfl, ?_⟩⟩
      exact q _ _ rfl (by omega) (((SameBut.of q3).trans d1).trans d2) (w2.mono (by omega))
    | some y =>
      obtain ⟨y0, y1⟩ := wo y rfl
      have rm : (1 : Int) * 2 ^ (y - 1).toNat = two (y - 1) := Int.one_mul _
      have r0 := two_pos (y - 1)
      have rb : (two (y - 1)).natAbs < 2 ^ 64 := by
        unfold two
        exact two_pow_lt (by omega)
      have fin : ∀ s : Int, lst y ≤ s → s ≤ grt y → inR (some y) s = true ∧ s.natAbs < 2 ^ 110 := fun s h0 h1 => by
        refine ⟨by show (decide (lst y ≤ s) && decide (s ≤ grt y)) = true; rw [decide_eq_true h0, decide_eq_true h1]; rfl, ?_⟩
        unfold lst grt at *
        have e : (2 : Nat) ^ 110 = 2 ^ 64 * 70368744177664 := by decide
        rw [e]
        generalize (2 : Nat) ^ 64 = N at *
        omega
      refine ⟨_, rfl, rfl, _, rfl, iteF ⟨_, rfl, _, _, rfl, rfl, _, _, rfl, rfl, ?_, ?_⟩⟩
      · have e : y - 1 = (((y - 1).toNat : Nat) : Int) := by omega
        rw [e]
        exact shl_ok (n := 1) (by decide) (by omega)
      dsimp only
      rw [rm]
      have eg : grt y = two (y - 1) - 1 := rfl
      have el : lst y = -(two (y - 1)) := rfl
      refine ⟨_, rfl, a, c, 8, rfl, hw, by omega, by decide, by decide +kernel, fun r1 H1 r10 r11 d1 e1 w1 => ⟨_, rfl, _, _, rfl, rfl, _, rfl, ite2 (fun lt => ?_) (fun _ => ?_)⟩⟩
      · have r12 : r1 < 2 := toB lt
        refine ⟨_, rfl, _, _, rfl, rfl, _, rfl, _, _, rfl, rfl, (by show 2 ≤ sizeLine; decide), fun l hl => ?_⟩
        have q3 := same_new (o := .lst [V.int (0 - two (y - 1)), V.int (two (y - 1) - 1)]) hl
        obtain ⟨v, i3, o3⟩ := twoI (x := V.int (0 - two (y - 1))) (y := V.int (two (y - 1) - 1)) r10 r12
        obtain ⟨s, rfl, s0, s1⟩ : ∃ s : Int, v = .int s ∧ lst y ≤ s ∧ s ≤ grt y := by
          rcases o3 with rfl | rfl
          · exact ⟨_, rfl, by omega, by omega⟩
          · exact ⟨_, rfl, by omega, by omega⟩
        obtain ⟨g1, g2⟩ := fin s s0 s1
        exact ⟨_, rfl, l, _, r1, _, rfl, rfl, SqL.of upd_same, i3, q s _ g1 g2 (d1.trans (.of q3)) ((w1.same q3).mono (by omega))⟩
      · refine ⟨_, rfl, _, _, rfl, rfl, _, rfl, ite2 (fun gt => ?_) (fun _ => ?_)⟩
        · have y25 : y > 24 := toB gt
          have big : 16777216 ≤ two (y - 1) := by
            unfold two
            have := Nat.pow_le_pow_right (n := 2) (by decide) (show 24 ≤ (y - 1).toNat by omega)
            have h2 : ((2 : Nat) ^ 24 : Nat) = 16777216 := by decide
            rw [h2] at this
            have h3 : ((2 : Int) ^ (y - 1).toNat) = (((2 : Nat) ^ (y - 1).toNat : Nat) : Int) := by
              rw [Int.natCast_pow]
              rfl
            rw [h3]
            omega
          refine ⟨_, rfl, a, c + 1, 2000001, rfl, w1, by omega, by decide, by decide +kernel, fun r2 H2 r20 r21 d2 e2 w2 => ⟨_, _, rfl, rfl, ?_⟩⟩
          obtain ⟨g1, g2⟩ := fin (r2 - 1000000) (by omega) (by omega)
          exact q _ _ g1 g2 (d1.trans d2) (w2.mono (by omega))
        · have bb : (2 * two (y - 1)).natAbs < 2 ^ 66 := by
            have e : (2 : Nat) ^ 66 = 2 ^ 64 * 4 := by decide
            rw [e]
            generalize (2 : Nat) ^ 64 = N at *
            omega
          refine ⟨_, rfl, _, rfl, _, _, rfl, rfl, .inl ⟨by decide, by decide⟩, a, c + 1, 2 * two (y - 1), rfl, w1, by omega, by omega, up bb (by decide), fun r2 H2 r20 r21 d2 e2 w2 => ⟨_, rfl, _, _, rfl, rfl, ?_⟩⟩
          obtain ⟨g1, g2⟩ := fin (r2 - two (y - 1)) (by omega) (by omega)
          exact q _ _ g1 g2 (d1.trans d2) (w2.mono (by omega))

end
end E1

namespace E1
open PySem PySem.Spec PyProof.Rows L2
section
variable {P : Program} {w : World} {K : PySem.W.Frag} {mg : Str → Option Value} {base : Heap}
theorem sc__law_coefficient : FnScope ["_law_well_here", "_law_way", "_law_wide"] ["_law_well_here"] (defScope s__law_coefficient) := ⟨rfl, rfl, rfl, by decide +kernel, rfl, by decide +kernel, by decide +kernel⟩
theorem ok__law_coefficient {f : Addr} {fd : FuncData} (F : Fun K "_law_coefficient" "_law_coefficient" s__law_coefficient f fd) (c__law_draw : Cal P w K mg base 1 "_law_draw" ["_law_well_here", "_law_many"] spDraw) : FnOk P w K mg base CX0 2 f fd ["_law_well_here"] sp2Coef := by
  refine F.ok sc__law_coefficient (fun vs H Q E h => ?_) (fun cdv A outer s H vs Q E hr h => ?_)
  · obtain ⟨a, c, rfl, _⟩ := h
    rfl
  · obtain ⟨a, c, rfl, hw, c0, c1, q⟩ := h
    refine ⟨_, (pss_cons (ps_set (i := 1) sc__law_coefficient.nd rfl (.inl rfl) (pe_cal c__law_draw hr (pa_cons (pv 0) (pa_cons pe_int pa_nil))))
      (pss_cons (ps_if (pt_cmpR op_eq (pv 1) pe_int (nomark _)) (pss_one (ps_ret (pe_op op_mul (pe_op op_sub (pe_op op_sub (pe_op op_pow pe_int pe_int) pe_int) (pe_cal c__law_draw hr (pa_cons (pv 0) (pa_cons (pe_op op_pow pe_int pe_int) pa_nil)))) (pe_op op_sub pe_int (pe_op op_mul pe_int (pe_cal c__law_draw hr (pa_cons (pv 0) (pa_cons pe_int pa_nil)))))))) pss_nil)
      (pss_cons (ps_set (i := 2) sc__law_coefficient.nd rfl (.inl rfl) (pe_ix ix_list (pe_lst (pa_cons pe_int (pa_cons pe_int (pa_cons (pe_op op_pow pe_int pe_int) pa_nil)))) (pv 1) (fun _ _ => rfl)))
      (pss_one (ps_ret (pe_op op_sub (pe_cal c__law_draw hr (pa_cons (pv 0) (pa_cons (pe_op op_add (pe_op op_mul pe_int (pv 2)) pe_int) pa_nil))) (pv 2))))))), ?_⟩
    have e63 : ((2 : Int) ^ (63 : Int).toNat) = 9223372036854775808 := by decide
    have e9 : ((10 : Int) ^ (9 : Int).toNat) = 1000000000 := by decide
    have e6 : ((10 : Int) ^ (6 : Int).toNat) = 1000000 := by decide
    refine ⟨_, rfl, a, c, 4, rfl, hw, by omega, by decide, by decide +kernel, fun r1 H1 r10 r11 d1 e1 w1 => ⟨_, rfl, rfl, _, rfl, ite2 (fun _ => ?_) (fun ne => ?_)⟩⟩
    · refine ⟨_, _, rfl, rfl, ⟨by decide, by decide, by decide⟩, _, _, rfl, rfl, _, rfl, _, _, rfl, rfl, ⟨by decide, by decide, by decide⟩, a, c + 1, 10 ^ (9 : Int).toNat, rfl, w1, by omega, by decide, by decide +kernel, fun r2 H2 r20 r21 d2 e2 w2 => ⟨_, _, rfl, rfl, ?_⟩⟩
      refine ⟨_, rfl, a, c + 1 + 1, 2, rfl, w2, by omega, by decide, by decide +kernel, fun r3 H3 r30 r31 d3 e3 w3 => ⟨_, _, rfl, rfl, .inl ⟨by decide, by decide⟩, _, _, rfl, rfl, _, _, rfl, rfl, .inr ⟨by omega, by omega⟩, ?_⟩⟩
      refine q _ _ ?_ ((d1.trans d2).trans d3) (w3.mono (by omega))
      show ((2 ^ (63 : Int).toNat - 1 - r2) * (1 - 2 * r3)).natAbs < 9223372036854775808
      rcases (by omega : r3 = 0 ∨ r3 = 1) with rfl | rfl
      · omega
      · omega
    · have n3 : r1 ≠ 3 := fun e => toNB ne (by rw [e])
      refine ⟨_, _, rfl, rfl, ⟨by decide, by decide, by decide⟩, (by show 3 ≤ sizeLine; decide), fun l hl => ?_⟩
      have q3 := same_new (o := .lst [V.int 3, V.int 20, V.int (10 ^ (6 : Int).toNat)]) hl
      obtain ⟨v, i3, o3⟩ := threeI (x := V.int 3) (y := V.int 20) (z := V.int (10 ^ (6 : Int).toNat)) r10 (show r1 < 3 by omega)
      obtain ⟨k, rfl, k0, k1⟩ : ∃ k : Int, v = .int k ∧ 1 ≤ k ∧ k ≤ 1000000 := by
        rcases o3 with rfl | rfl | rfl
        · exact ⟨_, rfl, by omega, by omega⟩
        · exact ⟨_, rfl, by omega, by omega⟩
        · exact ⟨_, rfl, by omega, by omega⟩
      refine ⟨_, rfl, l, _, r1, _, rfl, rfl, SqL.of upd_same, i3, ?_⟩
      refine ⟨_, rfl, _, rfl, _, _, rfl, rfl, .inl ⟨by decide, by decide⟩, _, _, rfl, rfl, a, c + 1, 2 * k + 1, rfl, w1.same q3, by omega, by omega, Nat.lt_of_le_of_lt (show _ ≤ 3000000 by omega) (by decide +kernel), fun r2 H2 r20 r21 d2 e2 w2 => ⟨_, rfl, _, _, rfl, rfl, ?_⟩⟩
      exact q _ _ (by omega) ((d1.trans (.of q3)).trans d2) (w2.mono (by omega))
theorem sc__law_leaf : FnScope ["_law_well_here", "_law_held", "_law_at"] ["_law_well_here", "_law_held"] (defScope s__law_leaf) := ⟨rfl, rfl, rfl, by decide +kernel, rfl, by decide +kernel, by decide +kernel⟩
theorem ok__law_leaf {f : Addr} {fd : FuncData} (F : Fun K "_law_leaf" "_law_leaf" s__law_leaf f fd) (z : Zs mg) (c__law_draw : Cal P w K mg base 1 "_law_draw" ["_law_well_here", "_law_many"] spDraw) : FnOk P w K mg base CX0 2 f fd ["_law_well_here", "_law_held"] sp2Leaf := by
  refine F.ok sc__law_leaf (fun vs H Q E h => ?_) (fun cdv A outer s H vs Q E hr h => ?_)
  · obtain ⟨a, kl, ks, c, rfl, _⟩ := h
    rfl
  · obtain ⟨a, kl, ks, c, rfl, hk, k5, hw, c0, c1, q⟩ := h
    refine ⟨_, (pss_cons (ps_set (i := 2) sc__law_leaf.nd rfl (.inl rfl) (pe_cal c__law_draw hr (pa_cons (pv 0) (pa_cons (pe_op op_add (pe_callB call_len_seq (by rfl) z.len PySem.boot_len (pa_cons (pv 1) pa_nil)) pe_int) pa_nil))))
      (pss_one (ps_ret (pe_ix ix_list (pe_lst (pa_cons (pe_tup (pa_cons pe_str pa_nil)) (pa_cons (pe_tup (pa_cons pe_str (pa_cons (pe_op op_sub (pv 2) pe_int) pa_nil))) pa_nil))) (pe_callTy call_int1 (by rfl) z.int (by decide +kernel) (pa_cons (pe_cmpR op_gt (pv 2) pe_int (nomark _)) pa_nil)) (fun _ _ => rfl))))), ?_⟩
    obtain ⟨wxs, hwx⟩ := hw.lst
    have lk : (ks.map nI).length = ks.length := List.length_map ..
    refine ⟨_, rfl, _, rfl, kl, _, rfl, .inl (SqL.of hk), _, _, rfl, rfl, a, c, ((ks.map nI).length : Int) + 1, rfl, hw, by omega, by omega, Nat.lt_of_le_of_lt (show _ ≤ 1000 by omega) (by decide +kernel), fun r3 H3 r30 r31 d3 e3 w3 => ?_⟩
    refine ⟨(by show 1 ≤ sizeLine; decide), fun t1 ht1 => ?_⟩
    generalize hG1 : upd _ t1 _ = G1
    obtain ⟨s1, h_t1⟩ := upd_gen hG1 ht1
    refine ⟨_, rfl, _, _, rfl, rfl, (by show 2 ≤ sizeLine; decide), fun t2 ht2 => ?_⟩
    generalize hG2 : upd _ t2 _ = G2
    obtain ⟨s2, h_t2⟩ := upd_gen hG2 ht2
    refine ⟨(by show 2 ≤ sizeLine; decide), fun l3 hl3 => ?_⟩
    generalize hG3 : upd _ l3 _ = G3
    obtain ⟨s3, h_l3⟩ := upd_gen hG3 hl3
    have S := (s1.trans s2).trans s3
    replace h_t1 := s3 _ _ (s2 _ _ h_t1)
    replace h_t2 := s3 _ _ h_t2
    have n1 := w3.ne ht1
    have n2 := (w3.same s1).ne ht2
    have f1 := same_free d3 hwx ht1 n1
    have f2 := same_free d3 hwx (s1.free ht2) n2
    obtain ⟨r, p, hix, hbr, hpr, np, fp⟩ : ∃ (r : Row) (p : Addr), atI [V.ref t1, V.ref t2] (if decide (r3 > 0) = true then 1 else 0) = some (.ref p) ∧ BegOk ks.length r ∧ G3 p = some (.tup r.vs) ∧ p ≠ a ∧ H p = none := by
      by_cases k : r3 > 0
      · refine ⟨.old (r3 - 1).toNat, t2, by rw [decide_eq_true k]; exact a1, show (r3 - 1).toNat < ks.length by omega, ?_, n2, f2⟩
        rw [h_t2]
        show some (HO.tup [V.str "old", V.int (r3 - 1)]) = some (.tup [.str "old", .int (((r3 - 1).toNat : Nat) : Int)])
        rw [show (((r3 - 1).toNat : Nat) : Int) = r3 - 1 by omega]
      · exact ⟨.inn, t1, by rw [decide_eq_false k]; exact a0, trivial, h_t1, n1, f1⟩
    refine ⟨_, rfl, _, _, rfl, rfl, .inr ⟨_, rfl, l3, _, _, .ref p, rfl, rfl, SqL.of h_l3, hix, ?_⟩⟩
    exact q r p _ hbr (d3.trans (.of S)) (w3.same S) np fp hpr
theorem sc__law_begun : FnScope ["_law_well_here", "_law_held", "_law_k"] ["_law_well_here", "_law_held"] (defScope s__law_begun) := ⟨rfl, rfl, rfl, by decide +kernel, rfl, by decide +kernel, by decide +kernel⟩
theorem ok__law_begun {f : Addr} {fd : FuncData} (F : Fun K "_law_begun" "_law_begun" s__law_begun f fd) (z : Zs mg) (c__law_draw : Cal P w K mg base 1 "_law_draw" ["_law_well_here", "_law_many"] spDraw) (c__law_leaf : Cal P w K mg base 2 "_law_leaf" ["_law_well_here", "_law_held"] sp2Leaf) : FnOk P w K mg base CX0 3 f fd ["_law_well_here", "_law_held"] sp2Begun := by
  refine F.ok sc__law_begun (fun vs H Q E h => ?_) (fun cdv A outer s H vs Q E hr h => ?_)
  · obtain ⟨a, kl, ks, c, rfl, _⟩ := h
    rfl
  · obtain ⟨a, kl, ks, c, rfl, hk, k5, hw, nka, c0, c1, q⟩ := h
    refine ⟨_, (pss_cons (ps_if (pt_cmpR op_eq (pe_cal c__law_draw hr (pa_cons (pv 0) (pa_cons pe_int pa_nil))) pe_int (nomark _)) (pss_one (ps_ret (pe_op op_cat (pe_lst (pa_cons (pe_tup (pa_cons pe_str pa_nil)) pa_nil)) (pe_lc (own := [("_law_k", 2)]) (g := gName 2) (tt := tYes) (te := (tTup (tCons (tC (.str "old")) (tCons (tVar 2) tNil)))) (by rfl) sc__law_begun.nd (pi_range1 (by rfl) z.range (pa_cons (pe_callB call_len_seq (by rfl) z.len PySem.boot_len (pa_cons (pv 1) pa_nil)) pa_nil)) (blkOk_by (own := [("_law_k", 2)]) (N := ["_law_well_here", "_law_held", "_law_k"]) (sc := defScope s__law_begun) (by decide +kernel)) (fun _ _ _ _ _ => by exact (pg_name (i := 2) sc__law_begun.nd rfl (.inl rfl))) (fun _ _ _ _ _ => by exact pts_nil) (fun _ _ _ _ _ => by exact (pe_tup (pa_cons pe_str (pa_cons (pv 2) pa_nil)))))))) pss_nil)
      (pss_one (ps_ret (pe_lc (own := [("_law_k", 2)]) (g := gName 2) (tt := tYes) (te := (tCall sp2Leaf [] E0 (tCons (tVar 0) (tCons (tVar 1) tNil)))) (by rfl) sc__law_begun.nd (pi_range1 (by rfl) z.range (pa_cons (pe_op op_add pe_int (pe_cal c__law_draw hr (pa_cons (pv 0) (pa_cons (pe_op op_add (pe_callB call_len_seq (by rfl) z.len PySem.boot_len (pa_cons (pv 1) pa_nil)) pe_int) pa_nil)))) pa_nil)) (blkOk_by (own := [("_law_k", 2)]) (N := ["_law_well_here", "_law_held", "_law_k"]) (sc := defScope s__law_begun) (by decide +kernel)) (fun _ _ _ _ _ => by exact (pg_name (i := 2) sc__law_begun.nd rfl (.inl rfl))) (fun _ _ _ _ _ => by exact pts_nil) (fun _ _ _ _ _ => by exact (pe_cal c__law_leaf hr (pa_cons (pv 0) (pa_cons (pv 1) pa_nil)))))))), ?_⟩
    obtain ⟨wxs, hwx⟩ := hw.lst
    have lk : (ks.map nI).length = ks.length := List.length_map ..
    refine ⟨_, rfl, a, c, 3, rfl, hw, by omega, by decide, by decide +kernel, fun r1 H1 r10 r11 d1 e1 w1 => ⟨rfl, _, rfl, ite2 (fun _ => ?_) (fun _ => ?_)⟩⟩
    · refine ⟨(by show 1 ≤ sizeLine; decide), fun t ht => ?_⟩
      generalize hG : upd _ t _ = G1
      obtain ⟨s1, h_t⟩ := upd_gen hG ht
      refine ⟨(by show 1 ≤ sizeLine; decide), fun l1 hl1 => ?_⟩
      generalize hG2 : upd _ l1 _ = G2
      obtain ⟨s2, h_l1⟩ := upd_gen hG2 hl1
      refine ⟨_, rfl, kl, _, rfl, .inl (SqL.of ((s1.trans s2) _ _ (d1 _ _ nka hk))), ks.length, by rw [lk], by omega, by omega, fun Dl hD => ?_⟩
      refine lc_it walk_range (fun i G => Same G2 G ∧ ∃ ws, G Dl = some (.lst ws) ∧ ws.length = i ∧ TsAt G ws ((List.range i).map fun k => (Row.old k).vs)) ⟨same_new hD, [], upd_same, rfl, .nil⟩ (fun _ _ _ _ => trivial) (fun i x G G' hi hP hY => ?_) (fun G hP => ?_)
      · obtain ⟨s3, ws, hd, lw, ht3⟩ := hP
        obtain ⟨rfl, rfl⟩ := hY
        refine ⟨rfl, _, rfl, (by show 2 ≤ sizeLine; decide), fun p hp => ?_⟩
        generalize hG3 : upd _ p _ = G3
        obtain ⟨s4, h_p⟩ := upd_gen hG3 hp
        have hd4 := s4 _ _ hd
        refine ⟨ws, hd4, sl_lt (by omega), fun b o e => ?_, _, upd_same, by rw [List.length_append, lw]; rfl, ?_⟩
        · rw [upd_ne (ne_of_none e hD)]
          exact s4 _ _ (s3 _ _ e)
        · rw [range_snoc]
          refine TsAt.push hd4 (ht3.same s4) ?_
          rw [h_p]
          show some (HO.tup [V.str "old", V.int (0 + (i : Int))]) = some (.tup [.str "old", .int (i : Int)])
          rw [Int.zero_add]
      · obtain ⟨s3, ws, hd, lw, ht3⟩ := hP
        refine ⟨l1, Dl, _, _, rfl, rfl, s3 _ _ h_l1, hd, sl_le (by simp only [List.length_singleton]; omega), fun l hl => ?_⟩
        generalize hG3 : upd _ l _ = G3
        obtain ⟨s4, h_l⟩ := upd_gen hG3 hl
        have S : Same H1 G3 := (s1.trans s2).trans (s3.trans s4)
        have w3 := w1.same S
        have nl : l ≠ a := ((w1.same ((s1.trans s2).trans s3))).ne hl
        refine q (.inn :: (List.range ks.length).map Row.old) l _ (fun r hr => ?_) (by simp) (by simp; omega) (d1.trans (.of S)) (w3.mono (by omega)) nl (same_free d1 hwx (((s1.trans s2).trans s3).free hl) nl) ⟨_, h_l, ?_⟩
        · rcases List.mem_cons.mp hr with rfl | hr
          · trivial
          · obtain ⟨k, hk, rfl⟩ := List.mem_map.mp hr
            exact List.mem_range.mp hk
        · refine TsAt.cons (s4 _ _ (s3 _ _ (s2 _ _ h_t))) ?_
          rw [List.map_map]
          exact ht3.same s4
    · refine ⟨_, rfl, _, rfl, kl, _, rfl, .inl (SqL.of (d1 _ _ nka hk)), _, _, rfl, rfl, a, c + 1, ((ks.map nI).length : Int) + 3, rfl, w1, by omega, by omega, Nat.lt_of_le_of_lt (show _ ≤ 1000 by omega) (by decide +kernel), fun r2 H2 r20 r21 d2 e2 w2 => ⟨_, _, rfl, rfl, (1 + r2).toNat, by rw [Int.toNat_of_nonneg (by omega)], by omega, by omega, fun l hl => ?_⟩⟩
      have nl : l ≠ a := w2.ne hl
      have hl0 : H l = none := same_free (d1.trans d2) hwx hl nl
      have hk2 := d2 _ _ nka (d1 _ _ nka hk)
      have nkl := ne_of_none hk2 hl
      refine lc_it walk_range (fun i G => ∃ (rows : List Row) (ws : List V), rows.length = i ∧ (∀ r ∈ rows, BegOk ks.length r) ∧ SameBut a H G ∧ WellAt G a (c + 2 + i) ∧ G l = some (.lst ws) ∧ TsAt G ws (rows.map Row.vs)) ⟨[], [], rfl, (fun r h => nomatch h), (d1.trans d2).trans (.of (same_new hl)), (w2.same (same_new hl)).mono (by omega), upd_same, .nil⟩ (fun _ _ _ _ => trivial) (fun i x G G' hi hP hY => ?_) (fun G hP => ?_)
      · obtain ⟨rows, ws, lr, hb, sb, wl, hd, ht⟩ := hP
        obtain ⟨rfl, rfl⟩ := hY
        have i9 : i < 9 := by omega
        obtain ⟨gxs, hgx⟩ := wl.lst
        have ltw := ht.len
        rw [List.length_map] at ltw
        refine ⟨rfl, _, rfl, _, rfl, a, kl, ks, c + 2 + i, rfl, sb _ _ nka hk, k5, wl, by omega, by omega, fun r p G3 hbr s3 w3 np fp hpr => ?_⟩
        have hd3 := s3 _ _ nl hd
        refine ⟨ws, hd3, sl_lt (by omega), rows ++ [r], _, by rw [List.length_append, lr]; rfl, fun x hx => ?_, fun b o n e => ?_, (w3.but SameBut.upd nl.symm).mono (by omega), upd_same, ?_⟩
        · rcases List.mem_append.mp hx with hx | hx
          · exact hb x hx
          · rw [List.mem_singleton.mp hx]
            exact hbr
        · rw [upd_ne (ne_of_none e hl0)]
          exact s3 _ _ n (sb _ _ n e)
        · rw [List.map_append]
          exact TsAt.push hd3 (ht.but s3 hgx) hpr
      · obtain ⟨rows, ws, lr, hb, sb, wl, hd, ht⟩ := hP
        exact q rows l _ hb (by omega) (by omega) sb (wl.mono (by omega)) nl hl0 ⟨_, hd, ht⟩
end
end E1

namespace E1
open PySem PySem.Spec PyProof.Rows L2

theorem fpt_at {fs : List FormP} {k : Nat} {f : FormP} (h : fs[k]? = some f) : fpt fs k = f.pt := by
  unfold fpt
  rw [List.getD_eq_getElem?_getD, List.getElem?_map, h]
  rfl
def sp2Point : Sp := fun vs H Q _ => ∃ (rp pl fl kl : Addr) (r : Row) (pts : List Int) (fs : List FormP) (en : Nat) (ks : List Nat), vs = [.ref rp, .ref pl, .ref fl, .int en, .ref kl] ∧ H rp = some (.tup r.vs) ∧ H pl = some (.lst (pts.map V.int)) ∧ TL7 H fl (fs.map FormP.vs) ∧ H kl = some (.lst (ks.map nI)) ∧ en < fs.length ∧ (∀ k ∈ ks, k < fs.length) ∧ RowOk ks.length fs.length pts.length r ∧ Q (.int (rowPt (fpt fs en) (ks.map (fpt fs)) (fs.map (·.pt)) pts r)) H
def PtB (pts : List Int) : Row → Prop
  | .times _ m a => pts.getD a 0 + m ≤ 160
  | .move m a => -160 ≤ pts.getD a 0 - m ∧ pts.getD a 0 - m ≤ 160
  | _ => True
def sp2More : Sp := fun vs H Q _ => ∃ (a ml pl fl kl : Addr) (rows : List Row) (pts : List Int) (fs : List FormP) (ks : List Nat) (c : Int), vs = [.ref a, .ref ml, .ref pl, .ref fl, .ref kl] ∧ TL7 H ml (rows.map Row.vs) ∧ H pl = some (.lst (pts.map V.int)) ∧ TL7 H fl (fs.map FormP.vs) ∧ H kl = some (.lst (ks.map nI)) ∧ pts.length = rows.length ∧ 1 ≤ rows.length ∧ rows.length ≤ 60 ∧ 1 ≤ fs.length ∧ fs.length ≤ 12 ∧ ks.length ≤ 5 ∧ (∀ p ∈ pts, -160 ≤ p ∧ p ≤ 160) ∧ WellAt H a c ∧ ml ≠ a ∧ pl ≠ a ∧ fl ≠ a ∧ kl ≠ a ∧ 0 ≤ c ∧ c ≤ 9000 ∧
  ∀ (r : Row) (p : Addr) (H' : Hp), RowOk ks.length fs.length rows.length r → PtB pts r → SameBut a H H' → WellAt H' a (c + 12) → p ≠ a → H p = none → H' p = some (.tup r.vs) → Q (.ref p) H'
theorem ib01 (b : Bool) : -(2 : Int) ^ 64 < (if b = true then (1 : Int) else 0) ∧ (if b = true then (1 : Int) else 0) < 2 ^ 64 := by
  cases b <;> decide
theorem twoN {x y : Int} {r : Int} (h0 : 0 ≤ r) (h1 : r < 2) : ∃ k : Int, atI [V.int x, V.int y] r = some (.int k) ∧ (k = x ∨ k = y) := by
  rcases (by omega : r = 0 ∨ r = 1) with rfl | rfl
  · exact ⟨x, rfl, .inl rfl⟩
  · exact ⟨y, rfl, .inr rfl⟩
section
variable {P : Program} {w : World} {K : PySem.W.Frag} {mg : Str → Option Value} {base : Heap}
theorem sc__law_point : FnScope ["_law_row", "_law_points", "_law_forms", "_law_enters", "_law_held"] ["_law_row", "_law_points", "_law_forms", "_law_enters", "_law_held"] (defScope s__law_point) := ⟨rfl, rfl, rfl, by decide +kernel, rfl, by decide +kernel, by decide +kernel⟩
theorem ok__law_point {f : Addr} {fd : FuncData} {k : Nat} (F : Fun K "_law_point" "_law_point" s__law_point f fd) (z : Zs mg) : FnOk P w K mg base CX0 (k + 1) f fd ["_law_row", "_law_points", "_law_forms", "_law_enters", "_law_held"] sp2Point := by
  refine F.ok sc__law_point (fun vs H Q E h => ?_) (fun cdv A outer s H vs Q E hr h => ?_)
  · obtain ⟨rp, pl, fl, kl, r, pts, fs, en, ks, rfl, _⟩ := h
    rfl
  · obtain ⟨rp, pl, fl, kl, r, pts, fs, en, ks, rfl, hrp, hpl, ⟨fv, hfl, tf⟩, hk, enl, kok, hok, q⟩ := h
    refine ⟨_, (pss_cons (ps_if (pt_cmpR op_eq (pe_ix ix_tup (pv 0) pe_int (fun _ _ => rfl)) pe_str (nomark _)) (pss_one (ps_ret (pe_ix ix_tup (pe_ix ix_list (pv 2) (pv 3) (fun _ _ => rfl)) pe_int (fun _ _ => rfl)))) pss_nil)
      (pss_cons (ps_if (pt_cmpR op_eq (pe_ix ix_tup (pv 0) pe_int (fun _ _ => rfl)) pe_str (nomark _)) (pss_one (ps_ret (pe_ix ix_tup (pe_ix ix_list (pv 2) (pe_ix ix_list (pv 4) (pe_ix ix_tup (pv 0) pe_int (fun _ _ => rfl)) (fun _ _ => rfl)) (fun _ _ => rfl)) pe_int (fun _ _ => rfl)))) pss_nil)
      (pss_cons (ps_if (pt_cmpR op_eq (pe_ix ix_tup (pv 0) pe_int (fun _ _ => rfl)) pe_str (nomark _)) (pss_one (ps_ret (pe_op op_add (pe_ix ix_list (pv 1) (pe_ix ix_tup (pv 0) pe_int (fun _ _ => rfl)) (fun _ _ => rfl)) (pe_ix ix_tup (pv 0) pe_int (fun _ _ => rfl))))) pss_nil)
      (pss_cons (ps_if (pt_cmpR op_eq (pe_ix ix_tup (pv 0) pe_int (fun _ _ => rfl)) pe_str (nomark _)) (pss_one (ps_ret (pe_op op_sub (pe_ix ix_list (pv 1) (pe_ix ix_tup (pv 0) pe_int (fun _ _ => rfl)) (fun _ _ => rfl)) (pe_ix ix_tup (pv 0) pe_int (fun _ _ => rfl))))) pss_nil)
      (pss_cons (ps_if (pt_cmpR op_eq (pe_ix ix_tup (pv 0) pe_int (fun _ _ => rfl)) pe_str (nomark _)) (pss_one (ps_ret (pe_ix ix_tup (pe_ix ix_list (pv 2) (pe_ix ix_tup (pv 0) pe_int (fun _ _ => rfl)) (fun _ _ => rfl)) pe_int (fun _ _ => rfl)))) pss_nil)
      (pss_one (ps_ret (pe_callB (call_max2 rfl) (by rfl) z.max (by decide +kernel) (pa_cons (pe_ix ix_list (pv 1) (pe_ix ix_tup (pv 0) pe_int (fun _ _ => rfl)) (fun _ _ => rfl)) (pa_cons (pe_ix ix_list (pv 1) (pe_ix ix_tup (pv 0) pe_int (fun _ _ => rfl)) (fun _ _ => rfl)) pa_nil)))))))))), ?_⟩
    match r, hrp, hok, q with
    | .inn, hrp, _, q =>
      have ef := List.getElem?_eq_getElem enl
      obtain ⟨p, ep, hp'⟩ := tf.at (i := en) (xs := (fs[en]'enl).vs) (by rw [List.getElem?_map, ef]; rfl)
      have epf := fpt_at ef
      refine ⟨_, rfl, rp, _, 0, .str _, rfl, rfl, SqT.of hrp, a0, rfl, _, rfl, iteC (d := true) (decide_eq_true rfl) (iteT ⟨_, rfl, _, rfl, fl, _, _, .ref p, rfl, rfl, SqL.of hfl, atI_nat ep, p, _, 1, .int _, rfl, rfl, SqT.of hp', a1, ?_⟩)⟩
      have : rowPt (fpt fs en) (ks.map (fpt fs)) (fs.map (·.pt)) pts .inn = (fs[en]).pt := epf
      rwa [this] at q
    | .old j, hrp, hok, q =>
      have hj : j < ks.length := hok
      have ej := List.getElem?_eq_getElem hj
      have kl2 := kok _ (List.getElem_mem hj)
      have ef := List.getElem?_eq_getElem kl2
      obtain ⟨p, ep, hp'⟩ := tf.at (i := ks[j]) (xs := (fs[ks[j]]'kl2).vs) (by rw [List.getElem?_map, ef]; rfl)
      have epf := fpt_at ef
      refine ⟨_, rfl, rp, _, 0, .str _, rfl, rfl, SqT.of hrp, a0, rfl, _, rfl, iteC (d := false) (decide_eq_false (fun z => absurd (V.str.inj z) (by decide +kernel))) (iteF ⟨_, rfl, rp, _, 0, .str _, rfl, rfl, SqT.of hrp, a0, rfl, _, rfl, iteC (d := true) (decide_eq_true rfl) (iteT ⟨_, rfl, _, rfl, _, rfl, rp, _, 1, _, rfl, rfl, SqT.of hrp, a1, kl, _, _, .int (ks[j] : Nat), rfl, rfl, SqL.of hk, atI_nat (by rw [List.getElem?_map, ej]; rfl), fl, _, _, .ref p, rfl, rfl, SqL.of hfl, atI_nat ep, p, _, 1, .int _, rfl, rfl, SqT.of hp', a1, ?_⟩)⟩)⟩
      have : rowPt (fpt fs en) (ks.map (fpt fs)) (fs.map (·.pt)) pts (.old j) = (fs[ks[j]]'kl2).pt := by
        show (ks.map (fpt fs)).getD j 0 = _
        rw [List.getD_eq_getElem?_getD, List.getElem?_map, ej]
        exact epf
      rwa [this] at q
    | .keep f x, hrp, hok, q =>
      have kl2 := hok.1
      have ef := List.getElem?_eq_getElem kl2
      obtain ⟨p, ep, hp'⟩ := tf.at (i := f) (xs := (fs[f]'kl2).vs) (by rw [List.getElem?_map, ef]; rfl)
      have epf := fpt_at ef
      refine ⟨_, rfl, rp, _, 0, .str _, rfl, rfl, SqT.of hrp, a0, rfl, _, rfl, iteC (d := false) (decide_eq_false (fun z => absurd (V.str.inj z) (by decide +kernel))) (iteF ⟨_, rfl, rp, _, 0, .str _, rfl, rfl, SqT.of hrp, a0, rfl, _, rfl, iteC (d := false) (decide_eq_false (fun z => absurd (V.str.inj z) (by decide +kernel))) (iteF ⟨_, rfl, rp, _, 0, .str _, rfl, rfl, SqT.of hrp, a0, rfl, _, rfl, iteC (d := false) (decide_eq_false (fun z => absurd (V.str.inj z) (by decide +kernel))) (iteF ⟨_, rfl, rp, _, 0, .str _, rfl, rfl, SqT.of hrp, a0, rfl, _, rfl, iteC (d := false) (decide_eq_false (fun z => absurd (V.str.inj z) (by decide +kernel))) (iteF ⟨_, rfl, rp, _, 0, .str _, rfl, rfl, SqT.of hrp, a0, rfl, _, rfl, iteC (d := true) (decide_eq_true rfl) (iteT ⟨_, rfl, _, rfl, rp, _, 1, _, rfl, rfl, SqT.of hrp, a1, fl, _, _, .ref p, rfl, rfl, SqL.of hfl, atI_nat ep, p, _, 1, .int _, rfl, rfl, SqT.of hp', a1, ?_⟩)⟩)⟩)⟩)⟩)⟩
      have : rowPt (fpt fs en) (ks.map (fpt fs)) (fs.map (·.pt)) pts (.keep f x) = (fs[f]'kl2).pt := epf
      rwa [this] at q
    | .times f m x, hrp, hok, q => exact ⟨_, rfl, rp, _, 0, .str _, rfl, rfl, SqT.of hrp, a0, rfl, _, rfl, iteC (d := false) (decide_eq_false (fun z => absurd (V.str.inj z) (by decide +kernel))) (iteF ⟨_, rfl, rp, _, 0, .str _, rfl, rfl, SqT.of hrp, a0, rfl, _, rfl, iteC (d := false) (decide_eq_false (fun z => absurd (V.str.inj z) (by decide +kernel))) (iteF ⟨_, rfl, rp, _, 0, .str _, rfl, rfl, SqT.of hrp, a0, rfl, _, rfl, iteC (d := true) (decide_eq_true rfl) (iteT ⟨_, rfl, _, rfl, rp, _, 3, _, rfl, rfl, SqT.of hrp, atI_nat (j := 3) rfl, pl, _, _, _, rfl, rfl, SqL.of hpl, ints_at hok.2.2, _, rfl, rp, _, 2, _, rfl, rfl, SqT.of hrp, a2, _, _, rfl, rfl, q⟩)⟩)⟩)⟩
    | .move m x, hrp, hok, q => exact ⟨_, rfl, rp, _, 0, .str _, rfl, rfl, SqT.of hrp, a0, rfl, _, rfl, iteC (d := false) (decide_eq_false (fun z => absurd (V.str.inj z) (by decide +kernel))) (iteF ⟨_, rfl, rp, _, 0, .str _, rfl, rfl, SqT.of hrp, a0, rfl, _, rfl, iteC (d := false) (decide_eq_false (fun z => absurd (V.str.inj z) (by decide +kernel))) (iteF ⟨_, rfl, rp, _, 0, .str _, rfl, rfl, SqT.of hrp, a0, rfl, _, rfl, iteC (d := false) (decide_eq_false (fun z => absurd (V.str.inj z) (by decide +kernel))) (iteF ⟨_, rfl, rp, _, 0, .str _, rfl, rfl, SqT.of hrp, a0, rfl, _, rfl, iteC (d := true) (decide_eq_true rfl) (iteT ⟨_, rfl, _, rfl, rp, _, 2, _, rfl, rfl, SqT.of hrp, a2, pl, _, _, _, rfl, rfl, SqL.of hpl, ints_at hok.2, _, rfl, rp, _, 1, _, rfl, rfl, SqT.of hrp, a1, _, _, rfl, rfl, q⟩)⟩)⟩)⟩)⟩
    | .plus x y, hrp, hok, q => exact ⟨_, rfl, rp, _, 0, .str _, rfl, rfl, SqT.of hrp, a0, rfl, _, rfl, iteC (d := false) (decide_eq_false (fun z => absurd (V.str.inj z) (by decide +kernel))) (iteF ⟨_, rfl, rp, _, 0, .str _, rfl, rfl, SqT.of hrp, a0, rfl, _, rfl, iteC (d := false) (decide_eq_false (fun z => absurd (V.str.inj z) (by decide +kernel))) (iteF ⟨_, rfl, rp, _, 0, .str _, rfl, rfl, SqT.of hrp, a0, rfl, _, rfl, iteC (d := false) (decide_eq_false (fun z => absurd (V.str.inj z) (by decide +kernel))) (iteF ⟨_, rfl, rp, _, 0, .str _, rfl, rfl, SqT.of hrp, a0, rfl, _, rfl, iteC (d := false) (decide_eq_false (fun z => absurd (V.str.inj z) (by decide +kernel))) (iteF ⟨_, rfl, rp, _, 0, .str _, rfl, rfl, SqT.of hrp, a0, rfl, _, rfl, iteC (d := false) (decide_eq_false (fun z => absurd (V.str.inj z) (by decide +kernel))) (iteF ⟨_, rfl, _, rfl, rp, _, 1, _, rfl, rfl, SqT.of hrp, a1, pl, _, _, _, rfl, rfl, SqL.of hpl, ints_at hok.1, _, rfl, _, rfl, rp, _, 2, _, rfl, rfl, SqT.of hrp, a2, pl, _, _, _, rfl, rfl, SqL.of hpl, ints_at hok.2, _, _, rfl, q⟩)⟩)⟩)⟩)⟩)⟩
    | .less x y, hrp, hok, q => exact ⟨_, rfl, rp, _, 0, .str _, rfl, rfl, SqT.of hrp, a0, rfl, _, rfl, iteC (d := false) (decide_eq_false (fun z => absurd (V.str.inj z) (by decide +kernel))) (iteF ⟨_, rfl, rp, _, 0, .str _, rfl, rfl, SqT.of hrp, a0, rfl, _, rfl, iteC (d := false) (decide_eq_false (fun z => absurd (V.str.inj z) (by decide +kernel))) (iteF ⟨_, rfl, rp, _, 0, .str _, rfl, rfl, SqT.of hrp, a0, rfl, _, rfl, iteC (d := false) (decide_eq_false (fun z => absurd (V.str.inj z) (by decide +kernel))) (iteF ⟨_, rfl, rp, _, 0, .str _, rfl, rfl, SqT.of hrp, a0, rfl, _, rfl, iteC (d := false) (decide_eq_false (fun z => absurd (V.str.inj z) (by decide +kernel))) (iteF ⟨_, rfl, rp, _, 0, .str _, rfl, rfl, SqT.of hrp, a0, rfl, _, rfl, iteC (d := false) (decide_eq_false (fun z => absurd (V.str.inj z) (by decide +kernel))) (iteF ⟨_, rfl, _, rfl, rp, _, 1, _, rfl, rfl, SqT.of hrp, a1, pl, _, _, _, rfl, rfl, SqL.of hpl, ints_at hok.1, _, rfl, _, rfl, rp, _, 2, _, rfl, rfl, SqT.of hrp, a2, pl, _, _, _, rfl, rfl, SqL.of hpl, ints_at hok.2, _, _, rfl, q⟩)⟩)⟩)⟩)⟩)⟩
theorem sc__law_one_more : FnScope ["_law_well_here", "_law_rows", "_law_points", "_law_forms", "_law_held", "_law_kind", "_law_i", "_law_j", "_law_wide"] ["_law_well_here", "_law_rows", "_law_points", "_law_forms", "_law_held"] (defScope s__law_one_more) := ⟨rfl, rfl, rfl, by decide +kernel, rfl, by decide +kernel, by decide +kernel⟩
theorem ok__law_one_more {f : Addr} {fd : FuncData} (F : Fun K "_law_one_more" "_law_one_more" s__law_one_more f fd) (z : Zs mg) (c__law_draw : Cal P w K mg base 1 "_law_draw" ["_law_well_here", "_law_many"] spDraw) (c__law_coefficient : Cal P w K mg base 2 "_law_coefficient" ["_law_well_here"] sp2Coef) (c__law_leaf : Cal P w K mg base 2 "_law_leaf" ["_law_well_here", "_law_held"] sp2Leaf) : FnOk P w K mg base CX0 3 f fd ["_law_well_here", "_law_rows", "_law_points", "_law_forms", "_law_held"] sp2More := by
  refine F.ok sc__law_one_more (fun vs H Q E h => ?_) (fun cdv A outer s H vs Q E hr h => ?_)
  · obtain ⟨a, ml, pl, fl, kl, rows, pts, fs, ks, c, rfl, _⟩ := h
    rfl
  · obtain ⟨a, ml, pl, fl, kl, rows, pts, fs, ks, c, rfl, ⟨mv, hml, tm⟩, hpl, ⟨fv, hfl, tf⟩, hkl, lpt, r1, r60, f1, f12, k5, pbd, hw, nma, npa, nfa, nka, c0, c1, q⟩ := h
    refine ⟨_, (pss_cons (ps_set (i := 5) sc__law_one_more.nd rfl (.inl rfl) (pe_cal c__law_draw hr (pa_cons (pv 0) (pa_cons pe_int pa_nil))))
      (pss_cons (ps_set (i := 6) sc__law_one_more.nd rfl (.inl rfl) (pe_op op_sub (pe_op op_sub (pe_callB call_len_seq (by rfl) z.len PySem.boot_len (pa_cons (pv 1) pa_nil)) pe_int) (pe_cal c__law_draw hr (pa_cons (pv 0) (pa_cons (pe_ix ix_list (pe_lst (pa_cons pe_int (pa_cons (pe_callB call_len_seq (by rfl) z.len PySem.boot_len (pa_cons (pv 1) pa_nil)) pa_nil))) (pe_cal c__law_draw hr (pa_cons (pv 0) (pa_cons pe_int pa_nil))) (fun _ _ => rfl)) pa_nil)))))
      (pss_cons (ps_set (i := 7) sc__law_one_more.nd rfl (.inl rfl) (pe_cal c__law_draw hr (pa_cons (pv 0) (pa_cons (pe_callB call_len_seq (by rfl) z.len PySem.boot_len (pa_cons (pv 1) pa_nil)) pa_nil))))
      (pss_cons (ps_set (i := 8) sc__law_one_more.nd rfl (.inl rfl) (pe_ix ix_list (pe_lst (pa_cons pe_int (pa_cons pe_int pa_nil))) (pe_op op_fdiv (pe_cal c__law_draw hr (pa_cons (pv 0) (pa_cons pe_int pa_nil))) pe_int) (fun _ _ => rfl)))
      (pss_cons (ps_if (pt_cmpR op_lt (pv 5) pe_int (nomark _)) (pss_one (ps_ret (pe_tup (pa_cons pe_str (pa_cons (pe_cal c__law_coefficient hr (pa_cons (pv 0) pa_nil)) (pa_cons (pe_op op_mul (pe_cal c__law_draw hr (pa_cons (pv 0) (pa_cons (pv 8) pa_nil))) (pe_callTy call_int1 (by rfl) z.int (by decide +kernel) (pa_cons (pe_cmpR op_lt (pe_ix ix_list (pv 2) (pv 6) (fun _ _ => rfl)) pe_int (nomark _)) pa_nil))) (pa_cons (pv 6) pa_nil))))))) pss_nil)
      (pss_cons (ps_if (pt_cmpR op_lt (pv 5) pe_int (nomark _)) (pss_one (ps_ret (pe_tup (pa_cons (pe_ix ix_list (pe_lst (pa_cons pe_str (pa_cons pe_str (pa_cons pe_str pa_nil)))) (pe_op op_sub (pv 5) pe_int) (fun _ _ => rfl)) (pa_cons (pv 6) (pa_cons (pv 7) pa_nil)))))) pss_nil)
      (pss_cons (ps_if (pt_cmpR op_eq (pv 5) pe_int (nomark _)) (pss_one (ps_ret (pe_tup (pa_cons pe_str (pa_cons (pe_op op_mul (pe_op op_add (pe_op op_sub (pe_cal c__law_draw hr (pa_cons (pv 0) (pa_cons (pe_op op_sub (pe_op op_mul pe_int (pv 8)) pe_int) pa_nil))) (pv 8)) pe_int) (pe_callTy call_int1 (by rfl) z.int (by decide +kernel) (pa_cons (pe_cmpR op_lt (pe_callB call_abs (by rfl) z.abs (by decide +kernel) (pa_cons (pe_ix ix_list (pv 2) (pv 6) (fun _ _ => rfl)) pa_nil)) pe_int (nomark _)) pa_nil))) (pa_cons (pv 6) pa_nil)))))) pss_nil)
      (pss_cons (ps_if (pt_cmpR op_eq (pv 5) pe_int (nomark _)) (pss_one (ps_ret (pe_cal c__law_leaf hr (pa_cons (pv 0) (pa_cons (pv 4) pa_nil))))) pss_nil)
      (pss_one (ps_ret (pe_tup (pa_cons pe_str (pa_cons (pe_cal c__law_draw hr (pa_cons (pv 0) (pa_cons (pe_callB call_len_seq (by rfl) z.len PySem.boot_len (pa_cons (pv 3) pa_nil)) pa_nil))) (pa_cons (pv 6) pa_nil)))))))))))))), ?_⟩
    obtain ⟨wxs, hwx⟩ := hw.lst
    have lmv := tm.rlen
    have lfv := tf.len
    rw [List.length_map] at lfv
    refine ⟨_, rfl, a, c, 9, rfl, hw, by omega, by decide, by decide +kernel, fun r1 H1 r10 r11 d1 e1 w1 => ?_⟩
    have hml1 := d1 _ _ nma hml
    refine ⟨_, rfl, ml, _, rfl, .inl (SqL.of hml1), _, _, rfl, rfl, _, rfl, _, rfl, ml, _, rfl, .inl (SqL.of hml1), (by show 2 ≤ sizeLine; decide), fun l2 hl2 => ?_⟩
    generalize hG2 : upd _ l2 _ = G2
    obtain ⟨s2, h_l2⟩ := upd_gen hG2 hl2
    refine ⟨_, rfl, a, c + 1, 2, rfl, (w1.same s2), by omega, by decide, by decide +kernel, fun r3 H3 r30 r31 d3 e3 w3 => ?_⟩
    obtain ⟨k, ik, ok⟩ := twoN (x := 1) (y := (mv.length : Int)) r30 r31
    have k1 : 1 ≤ k ∧ k ≤ mv.length := by
      rcases ok with rfl | rfl
      · omega
      · omega
    refine ⟨l2, _, r3, _, rfl, rfl, SqL.of (d3 _ _ (w1.ne hl2) h_l2), ik, ?_⟩
    refine ⟨a, c + 1 + 1, k, rfl, w3, by omega, by omega, Nat.lt_of_le_of_lt (show _ ≤ 1000 by omega) (by decide +kernel), fun r4 H4 r40 r41 d4 e4 w4 => ⟨_, _, rfl, rfl, ?_⟩⟩
    have D4 : SameBut a H H4 := d1.trans ((SameBut.of s2).trans (d3.trans d4))
    obtain ⟨i, ei⟩ : ∃ i : Nat, (mv.length : Int) - 1 - r4 = i := ⟨((mv.length : Int) - 1 - r4).toNat, by omega⟩
    have il : i < rows.length := by omega
    have hml4 := D4 _ _ nma hml
    refine ⟨_, rfl, _, rfl, ml, _, rfl, .inl (SqL.of hml4), a, c + 1 + 1 + 1, (mv.length : Int), rfl, w4, by omega, by omega, Nat.lt_of_le_of_lt (show _ ≤ 1000 by omega) (by decide +kernel), fun r5 H5 r50 r51 d5 e5 w5 => ?_⟩
    obtain ⟨j, rfl⟩ : ∃ j : Nat, r5 = j := ⟨r5.toNat, by omega⟩
    have jl : j < rows.length := by omega
    refine ⟨(by show 2 ≤ sizeLine; decide), fun l6 hl6 => ?_⟩
    generalize hG6 : upd _ l6 _ = G6
    obtain ⟨s6, h_l6⟩ := upd_gen hG6 hl6
    refine ⟨_, rfl, a, c + 1 + 1 + 1 + 1, 8, rfl, (w5.same s6), by omega, by decide, by decide +kernel, fun r7 H7 r70 r71 d7 e7 w7 => ⟨_, _, rfl, rfl, ⟨by decide, by decide⟩, ?_⟩⟩
    obtain ⟨wd, iw, ow⟩ := twoN (x := 6) (y := 65) (r := r7 / 7) (Int.ediv_nonneg r70 (by decide)) (by omega)
    have wd1 : 6 ≤ wd ∧ wd ≤ 65 := by
      rcases ow with rfl | rfl <;> omega
    refine ⟨l6, _, _, _, rfl, rfl, SqL.of (d7 _ _ (w5.ne hl6) h_l6), iw, ?_⟩
    have D7 : SameBut a H H7 := D4.trans (d5.trans ((SameBut.of s6).trans d7))
    clear d1 d3 d4 d5 d7 e1 e3 e4 e5 e7 w1 w3 w4 w5 hl2 hl6 h_l2 h_l6 s2 s6 hG2 hG6 ik iw ok ow hml1 hml4 D4
    have hpl7 := D7 _ _ npa hpl
    have pat : atI (pts.map V.int) ((mv.length : Int) - 1 - r4) = some (.int (pts.getD i 0)) := by
      rw [ei]
      exact ints_at (by omega)
    obtain ⟨pb0, pb1⟩ := pbd (pts.getD i 0) (by
      rw [List.getD_eq_getElem?_getD, List.getElem?_eq_getElem (by omega)]
      exact List.getElem_mem _)
    have tup_ok : ∀ (r : Row) (G Gp : Hp) (p : Addr), RowOk ks.length fs.length rows.length r → PtB pts r → SameBut a H G → WellAt G a (c + 12) → G p = none → Gp = upd G p (.tup r.vs) → Q (.ref p) Gp := fun r G Gp p rok rpb sb wl hp e => by
      have np := wl.ne hp
      refine q r p Gp rok rpb (sb.trans ?_) ?_ np (same_free sb hwx hp np) ?_
      · rw [e]
        exact .of (same_new hp)
      · rw [e]
        exact wl.same (same_new hp)
      · rw [e]
        exact upd_same
    refine ⟨_, rfl, _, _, rfl, rfl, _, rfl, ite2 (fun _ => ?_) (fun ge2 => ?_)⟩
    · refine ⟨_, rfl, a, _, rfl, w7, by omega, by omega, fun s H8 sz sb8 w8 => ?_⟩
      refine ⟨_, rfl, _, rfl, a, _, wd, rfl, w8, by omega, by omega, Nat.lt_of_le_of_lt (show _ ≤ 1000 by omega) (by decide +kernel), fun rm H9 rm0 rm1 d9 e9 w9 => ?_⟩
      have D9 := D7.trans (sb8.trans d9)
      refine ⟨_, rfl, _, rfl, pl, _, _, _, rfl, rfl, SqL.of (D9 _ _ npa hpl), pat, _, _, rfl, rfl, .inr ⟨_, rfl, _, _, rfl, rfl, .inr ⟨?_, ?_⟩, _, rfl, (by show 4 ≤ sizeLine; decide), fun p hp => ?_⟩⟩
      · split <;> decide
      · split <;> decide
      · obtain ⟨m, em, m64, mp⟩ : ∃ m : Nat, rm * (if decide (pts.getD i 0 < 90) = true then 1 else 0) = (m : Int) ∧ m ≤ 64 ∧ pts.getD i 0 + m ≤ 160 := by
          by_cases cc : pts.getD i 0 < 90
          · rw [if_pos (decide_eq_true cc), Int.mul_one]
            exact ⟨rm.toNat, by omega, by omega, by omega⟩
          · rw [if_neg (by rw [decide_eq_false cc]; decide), Int.mul_zero]
            exact ⟨0, rfl, by omega, by omega⟩
        refine tup_ok (.times s m i) H9 _ p ⟨sz, m64, il⟩ mp D9 (w9.mono (by omega)) hp ?_
        show upd H9 p (.tup [V.str "times", .int s, .int (rm * (if decide (pts.getD i 0 < 90) = true then 1 else 0)), .int ((mv.length : Int) - 1 - r4)]) = _
        rw [em, ei]
        rfl
    refine ⟨_, rfl, _, _, rfl, rfl, _, rfl, ite2 (fun lt5 => ?_) (fun _ => ?_)⟩
    · have l5 : r1 < 5 := toB lt5
      have g2 : ¬ r1 < 2 := toNB ge2
      refine ⟨(by show 3 ≤ sizeLine; decide), fun l3 hl3 => ?_⟩
      have q3 := same_new (o := .lst [V.str "plus", V.str "less", V.str "less"]) hl3
      obtain ⟨v, iv, ov⟩ := threeI (x := V.str "plus") (y := V.str "less") (z := V.str "less") (r := r1 - 2) (by omega) (by omega)
      refine ⟨_, rfl, _, _, rfl, rfl, l3, _, _, v, rfl, rfl, SqL.of upd_same, iv, _, rfl, _, rfl, (by show 3 ≤ sizeLine; decide), fun p hp => ?_⟩
      rcases ov with rfl | rfl | rfl
      · refine tup_ok (.plus i j) _ _ p ⟨il, jl⟩ trivial (D7.trans (.of q3)) ((w7.same q3).mono (by omega)) hp ?_
        show upd _ p (.tup [V.str "plus", .int ((mv.length : Int) - 1 - r4), .int (j : Int)]) = _
        rw [ei]
        rfl
      · refine tup_ok (.less i j) _ _ p ⟨il, jl⟩ trivial (D7.trans (.of q3)) ((w7.same q3).mono (by omega)) hp ?_
        show upd _ p (.tup [V.str "less", .int ((mv.length : Int) - 1 - r4), .int (j : Int)]) = _
        rw [ei]
        rfl
      · refine tup_ok (.less i j) _ _ p ⟨il, jl⟩ trivial (D7.trans (.of q3)) ((w7.same q3).mono (by omega)) hp ?_
        show upd _ p (.tup [V.str "less", .int ((mv.length : Int) - 1 - r4), .int (j : Int)]) = _
        rw [ei]
        rfl
    refine ⟨_, rfl, rfl, _, rfl, ite2 (fun _ => ?_) (fun _ => ?_)⟩
    · refine ⟨_, rfl, _, rfl, _, _, rfl, rfl, .inl ⟨by decide, by decide⟩, _, _, rfl, rfl, a, _, 2 * wd - 1, rfl, w7, by omega, by omega, Nat.lt_of_le_of_lt (show _ ≤ 1000 by omega) (by decide +kernel), fun rm H9 rm0 rm1 d9 e9 w9 => ?_⟩
      have D9 := D7.trans d9
      have ab : (if pts.getD i 0 < 0 then -pts.getD i 0 else pts.getD i 0) = ((pts.getD i 0).natAbs : Int) := by split <;> omega
      refine ⟨_, rfl, _, _, rfl, rfl, _, _, rfl, rfl, _, rfl, _, rfl, pl, _, _, _, rfl, rfl, SqL.of (D9 _ _ npa hpl), pat, _, rfl, _, _, rfl, rfl, .inr ⟨_, rfl, _, _, rfl, rfl, .inr ⟨?_, ?_⟩, _, rfl, (by show 3 ≤ sizeLine; decide), fun p hp => ?_⟩⟩
      · exact (ib01 _).1
      · exact (ib01 _).2
      · obtain ⟨m, em, m64, mp⟩ : ∃ m : Int, (rm - wd + 1) * (if decide (((pts.getD i 0).natAbs : Int) < 90) = true then 1 else 0) = m ∧ m.natAbs ≤ 64 ∧ -160 ≤ pts.getD i 0 - m ∧ pts.getD i 0 - m ≤ 160 := by
          by_cases cc : ((pts.getD i 0).natAbs : Int) < 90
          · rw [if_pos (decide_eq_true cc), Int.mul_one]
            exact ⟨_, rfl, by omega, by omega, by omega⟩
          · rw [if_neg (by rw [decide_eq_false cc]; decide), Int.mul_zero]
            exact ⟨0, rfl, by omega, by omega, by omega⟩
        refine tup_ok (.move m i) H9 _ p ⟨m64, il⟩ mp D9 (w9.mono (by omega)) hp ?_
        show upd H9 p (.tup [V.str "move", .int ((rm - wd + 1) * (if decide ((if pts.getD i 0 < 0 then -pts.getD i 0 else pts.getD i 0) < 90) = true then 1 else 0)), .int ((mv.length : Int) - 1 - r4)]) = _
        rw [ab, em, ei]
        rfl
    refine ⟨_, rfl, rfl, _, rfl, ite2 (fun _ => ?_) (fun _ => ?_)⟩
    · refine ⟨_, rfl, _, rfl, a, kl, ks, _, rfl, D7 _ _ nka hkl, k5, w7, by omega, by omega, fun r p G hb sb wl np fp hp => ?_⟩
      have rok : RowOk ks.length fs.length rows.length r ∧ PtB pts r := by
        cases r with
        | inn => exact ⟨trivial, trivial⟩
        | old k => exact ⟨hb, trivial⟩
        | _ => exact hb.elim
      exact q r p G rok.1 rok.2 (D7.trans sb) (wl.mono (by omega)) np (same_free D7 hwx fp np) hp
    · refine ⟨_, rfl, _, rfl, fl, _, rfl, .inl (SqL.of (D7 _ _ nfa hfl)), a, _, (fv.length : Int), rfl, w7, by omega, by omega, Nat.lt_of_le_of_lt (show _ ≤ 1000 by omega) (by decide +kernel), fun rm H9 rm0 rm1 d9 e9 w9 => ⟨_, rfl, (by show 3 ≤ sizeLine; decide), fun p hp => ?_⟩⟩
      obtain ⟨f, rfl⟩ : ∃ f : Nat, rm = f := ⟨rm.toNat, by omega⟩
      refine tup_ok (.keep f i) H9 _ p ⟨by omega, il⟩ trivial (D7.trans d9) (w9.mono (by omega)) hp ?_
      show upd H9 p (.tup [V.str "keep", .int (f : Int), .int ((mv.length : Int) - 1 - r4)]) = _
      rw [ei]
      rfl
end
end E1

namespace E1
open PySem PySem.Spec PyProof.Rows L2

theorem at_last {xs : List V} {x : V} : atI (xs ++ [x]) (-1) = some x := by
  unfold atI ixN
  rw [if_neg (by decide), if_pos (by rw [List.length_append, List.length_singleton]; omega)]
  show (xs ++ [x])[((-1 : Int) + ((xs ++ [x]).length : Int)).toNat]? = some x
  rw [show ((-1 : Int) + ((xs ++ [x]).length : Int)).toNat = xs.length by rw [List.length_append, List.length_singleton]; omega, List.getElem?_append_right (Nat.le_refl _), Nat.sub_self]
  rfl
/-- but for three -/
def B3 (a m p : Addr) (H H' : Hp) : Prop := ∀ b o, b ≠ a → b ≠ m → b ≠ p → H b = some o → H' b = some o
theorem B3.trans {a m p : Addr} {H H1 H2 : Hp} (x : B3 a m p H H1) (y : B3 a m p H1 H2) : B3 a m p H H2 := fun b o n1 n2 n3 e => y b o n1 n2 n3 (x b o n1 n2 n3 e)
theorem B3.refl (a m p : Addr) (H : Hp) : B3 a m p H H := fun _ _ _ _ _ e => e
theorem B3.one {a m p : Addr} {H H' : Hp} (s : SameBut a H H') : B3 a m p H H' := fun b o n _ _ e => s b o n e
theorem B3.two {a m p : Addr} {H H' : Hp} (s : SameBut m H H') : B3 a m p H H' := fun b o _ n _ e => s b o n e
theorem B3.three {a m p : Addr} {H H' : Hp} (s : SameBut p H H') : B3 a m p H H' := fun b o _ _ n e => s b o n e
theorem B3.of {a m p : Addr} {H H' : Hp} (s : Same H H') : B3 a m p H H' := fun b o _ _ _ e => s b o e
def ptsK (fs : List FormP) (en : Nat) (ks : List Nat) (rows : List Row) : List Int := ptsOf (fpt fs en) (ks.map (fpt fs)) (fs.map (·.pt)) rows
/-- forms, the one that enters, the holds' forms -/
structure FC (fs : List FormP) (en : Nat) (ks : List Nat) : Prop where
  f1 : 1 ≤ fs.length
  f2 : fs.length ≤ 12
  en : en < fs.length
  k5 : ks.length ≤ 5
  ko : ∀ k ∈ ks, k < fs.length
  fo : ∀ f ∈ fs, f.Ok
  fp : ∀ f ∈ fs, -4 ≤ f.pt ∧ f.pt ≤ 5
/-- rows that grow, with their points -/
structure FB (H : Hp) (a fl kl ml pl : Addr) (fs : List FormP) (en : Nat) (ks : List Nat) (rows : List Row) (c : Int) : Prop where
  w : WellAt H a c
  f : TL7 H fl (fs.map FormP.vs)
  k : H kl = some (.lst (ks.map nI))
  m : TL7 H ml (rows.map Row.vs)
  p : H pl = some (.lst ((ptsK fs en ks rows).map V.int))
  n1 : kl ≠ a
  n2 : fl ≠ a
  n3 : ml ≠ a
  n4 : pl ≠ a
  n5 : kl ≠ ml
  n6 : fl ≠ ml
  n7 : kl ≠ pl
  n8 : fl ≠ pl
  n9 : ml ≠ pl
  ok : ∀ i r, rows[i]? = some r → RowOk ks.length fs.length i r
  pb : ∀ p ∈ ptsK fs en ks rows, -160 ≤ p ∧ p ≤ 160
  l1 : 1 ≤ rows.length
section
variable {H H' : Hp} {a fl kl ml pl : Addr} {fs : List FormP} {en : Nat} {ks : List Nat} {rows : List Row} {c c' : Int}
theorem FB.mono (b : FB H a fl kl ml pl fs en ks rows c) (l : c ≤ c') : FB H a fl kl ml pl fs en ks rows c' := { b with w := b.w.mono l }
theorem FB.one (b : FB H a fl kl ml pl fs en ks rows c) (s : SameBut a H H') (w : WellAt H' a c') : FB H' a fl kl ml pl fs en ks rows c' := by
  obtain ⟨gx, hgx⟩ := b.w.lst
  exact { b with w := w, f := b.f.but s hgx b.n2, k := s _ _ b.n1 b.k, m := b.m.but s hgx b.n3, p := s _ _ b.n4 b.p }
theorem FB.new (b : FB H a fl kl ml pl fs en ks rows c) (s : Same H H') : FB H' a fl kl ml pl fs en ks rows c := b.one (.of s) (b.w.same s)
theorem ptsK_len (fs : List FormP) (en : Nat) (ks : List Nat) (rows : List Row) : (ptsK fs en ks rows).length = rows.length := ptsOf_len ..
theorem ptsK_snoc (fs : List FormP) (en : Nat) (ks : List Nat) (rows : List Row) (r : Row) : ptsK fs en ks (rows ++ [r]) = ptsK fs en ks rows ++ [rowPt (fpt fs en) (ks.map (fpt fs)) (fs.map (·.pt)) (ptsK fs en ks rows) r] := ptsOf_snoc ..
theorem fpt_bd (h : ∀ f ∈ fs, -4 ≤ f.pt ∧ f.pt ≤ 5) (k : Nat) : -160 ≤ fpt fs k ∧ fpt fs k ≤ 160 := by
  unfold fpt
  rw [List.getD_eq_getElem?_getD, List.getElem?_map]
  cases e : fs[k]? with
  | none => exact ⟨by decide, by decide⟩
  | some f =>
    have := h f (List.mem_of_getElem? e)
    exact ⟨by show -160 ≤ f.pt; omega, by show f.pt ≤ 160; omega⟩
theorem row_bd {pts : List Int} (fc : FC fs en ks) (pb : ∀ p ∈ pts, -160 ≤ p ∧ p ≤ 160) {r : Row} (ok : RowOk ks.length fs.length pts.length r) (hr : PtB pts r) : -160 ≤ rowPt (fpt fs en) (ks.map (fpt fs)) (fs.map (·.pt)) pts r ∧ rowPt (fpt fs en) (ks.map (fpt fs)) (fs.map (·.pt)) pts r ≤ 160 := by
  have g : ∀ i, -160 ≤ pts.getD i 0 ∧ pts.getD i 0 ≤ 160 := fun i => by
    rw [List.getD_eq_getElem?_getD]
    cases e : pts[i]? with
    | none => exact ⟨by decide, by decide⟩
    | some p => exact pb p (List.mem_of_getElem? e)
  match r, ok, hr with
  | .inn, _, _ => exact fpt_bd fc.fp en
  | .old k, ok, _ =>
    show -160 ≤ (ks.map (fpt fs)).getD k 0 ∧ (ks.map (fpt fs)).getD k 0 ≤ 160
    rw [List.getD_eq_getElem?_getD, List.getElem?_map]
    cases e : ks[k]? with
    | none => exact ⟨show (-160 : Int) ≤ 0 by decide, show (0 : Int) ≤ 160 by decide⟩
    | some j => exact fpt_bd fc.fp j
  | .times f m x, _, hr => exact ⟨by have := (g x).1; show -160 ≤ pts.getD x 0 + (m : Int); omega, hr⟩
  | .plus x y, _, _ =>
    have := g x
    have := g y
    show -160 ≤ (if pts.getD y 0 > pts.getD x 0 then pts.getD y 0 else pts.getD x 0) ∧ (if pts.getD y 0 > pts.getD x 0 then pts.getD y 0 else pts.getD x 0) ≤ 160
    split <;> omega
  | .less x y, _, _ =>
    have := g x
    have := g y
    show -160 ≤ (if pts.getD y 0 > pts.getD x 0 then pts.getD y 0 else pts.getD x 0) ∧ (if pts.getD y 0 > pts.getD x 0 then pts.getD y 0 else pts.getD x 0) ≤ 160
    split <;> omega
  | .move m x, _, hr => exact hr
  | .keep f x, _, _ => exact fpt_bd fc.fp f
theorem FB.list (b : FB H a fl kl ml pl fs en ks rows c) {l : Addr} {xs ys : List V} (hl : H l = some (.lst xs)) (n1 : a ≠ l) (n2 : fl ≠ l) (n3 : kl ≠ l) (n4 : ml ≠ l) (n5 : pl ≠ l) : FB (upd H l (.lst ys)) a fl kl ml pl fs en ks rows c :=
  { b with w := b.w.but SameBut.upd n1, f := b.f.but SameBut.upd hl n2, k := by rw [upd_ne n3]; exact b.k, m := b.m.but SameBut.upd hl n4, p := by rw [upd_ne n5]; exact b.p }
/-- a row more, and its point -/
theorem FB.push (fc : FC fs en ks) (b : FB H a fl kl ml pl fs en ks rows c) {mv : List V} {p : Addr} {r : Row} (hm : H ml = some (.lst mv)) (tm : TsAt H mv (rows.map Row.vs)) (hp : H p = some (.tup r.vs)) (rok : RowOk ks.length fs.length rows.length r) (rpb : PtB (ptsK fs en ks rows) r) :
    FB (upd (upd H ml (.lst (mv ++ [.ref p]))) pl (.lst ((ptsK fs en ks rows).map V.int ++ [.int (rowPt (fpt fs en) (ks.map (fpt fs)) (fs.map (·.pt)) (ptsK fs en ks rows) r)]))) a fl kl ml pl fs en ks (rows ++ [r]) c := by
  have h_p : (upd H ml (.lst (mv ++ [.ref p]))) pl = some (.lst ((ptsK fs en ks rows).map V.int)) := by
    rw [upd_ne b.n9.symm]
    exact b.p
  refine ⟨(b.w.but SameBut.upd b.n3.symm).but SameBut.upd b.n4.symm, (b.f.but SameBut.upd hm b.n6).but SameBut.upd h_p b.n8, by rw [upd_ne b.n7, upd_ne b.n5]; exact b.k, ⟨mv ++ [.ref p], by rw [upd_ne b.n9, upd_same], ?_⟩, ?_, b.n1, b.n2, b.n3, b.n4, b.n5, b.n6, b.n7, b.n8, b.n9, fun i x e => ?_, fun q hq => ?_, by have := b.l1; rw [List.length_append]; omega⟩
  · rw [List.map_append]
    exact (TsAt.push hm tm hp).but SameBut.upd h_p
  · rw [upd_same, ptsK_snoc, List.map_append]
    rfl
  · rcases row_get e with h | ⟨rfl, rfl⟩
    · exact b.ok i x h
    · exact rok
  · rw [ptsK_snoc] at hq
    rcases List.mem_append.mp hq with h | h
    · exact b.pb q h
    · rw [List.mem_singleton.mp h]
      exact row_bd fc b.pb (by rw [ptsK_len]; exact rok) rpb
end
def sp2Fill : Sp := fun vs H Q _ => ∃ (a np fl kl ml pl : Addr) (fs : List FormP) (en : Nat) (ks : List Nat) (rows : List Row) (many : Nat) (c : Int), vs = [.ref a, .ref np, .int many] ∧ H np = some (.tup [.ref fl, .int en, .ref ml, .ref kl, .ref pl]) ∧ FC fs en ks ∧ FB H a fl kl ml pl fs en ks rows c ∧ many ≤ 30 ∧ rows.length + many ≤ 60 ∧ 0 ≤ c ∧ c ≤ 5000 ∧
  ∀ (ex : List Row) (H' : Hp), ex.length = many → B3 a ml pl H H' → FB H' a fl kl ml pl fs en ks (rows ++ ex) (c + 12 * many) → Q .non H'
section
variable {P : Program} {w : World} {K : PySem.W.Frag} {mg : Str → Option Value} {base : Heap}
theorem sc__law_filled : FnScope ["_law_well_here", "_law_net_here", "_law_many", "_law_forms", "_law_enters", "_law_rows", "_law_held", "_law_points", "_law_k"] ["_law_well_here", "_law_net_here", "_law_many"] (defScope s__law_filled) := ⟨rfl, rfl, rfl, by decide +kernel, rfl, by decide +kernel, by decide +kernel⟩
theorem ok__law_filled {f : Addr} {fd : FuncData} (F : Fun K "_law_filled" "_law_filled" s__law_filled f fd) (z : Zs mg) (c__law_one_more : Cal P w K mg base 3 "_law_one_more" ["_law_well_here", "_law_rows", "_law_points", "_law_forms", "_law_held"] sp2More) (c__law_point : Cal P w K mg base 1 "_law_point" ["_law_row", "_law_points", "_law_forms", "_law_enters", "_law_held"] sp2Point) : FnOk P w K mg base CX0 4 f fd ["_law_well_here", "_law_net_here", "_law_many"] sp2Fill := by
  refine F.ok sc__law_filled (fun vs H Q E h => ?_) (fun cdv A outer s H vs Q E hr h => ?_)
  · obtain ⟨a, np, fl, kl, ml, pl, fs, en, ks, rows, many, c, rfl, _⟩ := h
    rfl
  · obtain ⟨a, np, fl, kl, ml, pl, fs, en, ks, rows, many, c, rfl, hnp, fc, b, m30, r60, c0, c5, q⟩ := h
    refine ⟨_, (pss_cons (ps_asg (pv 1) (pg_tup (by rfl) (pgs_cons (pg_name (i := 3) sc__law_filled.nd rfl (.inl rfl)) (pgs_cons (pg_name (i := 4) sc__law_filled.nd rfl (.inl rfl)) (pgs_cons (pg_name (i := 5) sc__law_filled.nd rfl (.inl rfl)) (pgs_cons (pg_name (i := 6) sc__law_filled.nd rfl (.inl rfl)) (pgs_cons (pg_name (i := 7) sc__law_filled.nd rfl (.inl rfl)) pgs_nil)))))))
      (pss_one (ps_for PassesOwn.never rfl (pi_range1 (by rfl) z.range (pa_cons (pv 2) pa_nil)) (pg_name (i := 8) sc__law_filled.nd rfl (.inl rfl)) (pss_cons (ps_expr (pe_bm PySem.F.plainAttrs_list PySem.F.slot_list_append PySem.F.type_list_append mt_append (pv 5) (pa_cons (pe_cal c__law_one_more hr (pa_cons (pv 0) (pa_cons (pv 5) (pa_cons (pv 7) (pa_cons (pv 3) (pa_cons (pv 6) pa_nil)))))) pa_nil)))
      (pss_one (ps_expr (pe_bm PySem.F.plainAttrs_list PySem.F.slot_list_append PySem.F.type_list_append mt_append (pv 7) (pa_cons (pe_cal c__law_point hr (pa_cons (pe_ix ix_list (pv 5) (pe_un un_neg pe_int) (fun _ _ => rfl)) (pa_cons (pv 7) (pa_cons (pv 3) (pa_cons (pv 4) (pa_cons (pv 6) pa_nil)))))) pa_nil)))))))), ?_⟩
    refine ⟨_, rfl, np, _, rfl, SqT.of hnp, rfl, _, _, rfl, _, _, rfl, _, _, rfl, _, _, rfl, _, _, rfl, rfl, _, rfl, many, rfl, by omega, by omega, ?_⟩
    refine for_it walk_range (fun i σ G => ∃ (ex : List Row) (y : Option V), σ = [some (.ref a), some (.ref np), some (.int (many : Nat)), some (.ref fl), some (.int (en : Nat)), some (.ref ml), some (.ref kl), some (.ref pl), y] ∧ ex.length = i ∧ B3 a ml pl H G ∧ FB G a fl kl ml pl fs en ks (rows ++ ex) (c + 12 * i)) ⟨[], none, rfl, rfl, B3.refl _ _ _ _, by rw [List.append_nil]; exact b.mono (by omega)⟩ (fun _ _ _ _ _ => trivial) (fun i x σ G G' hi hP hY => ?_) (fun σ G hP => ?_)
    · obtain ⟨ex, y, rfl, lx, B, b⟩ := hP
      obtain ⟨rfl, rfl⟩ := hY
      have lr : (rows ++ ex).length = rows.length + i := by rw [List.length_append, lx]
      obtain ⟨mv, hmv, tmv⟩ := id b.m
      have lmv := tmv.rlen
      refine ⟨_, rfl, .inl ⟨rfl, _, SqL.of hmv⟩, _, rfl, _, rfl, _, rfl, _, rfl, _, rfl, a, ml, pl, fl, kl, rows ++ ex, ptsK fs en ks (rows ++ ex), fs, ks, c + 12 * i, rfl, b.m, b.p, b.f, b.k, ptsK_len .., b.l1, by omega, fc.f1, fc.f2, fc.k5, b.pb, b.w, b.n3, b.n4, b.n2, b.n1, by omega, by omega, fun r p G2 rok rpb sb w2 np2 hp0 hp => ?_⟩
      obtain ⟨gx, hgx⟩ := b.w.lst
      have b2 := b.one sb w2
      have hm2 := sb _ _ b.n3 hmv
      have tm2 := tmv.but sb hgx
      refine ⟨ml, _, _, rfl, rfl, hm2, sl_lt (by omega), ?_⟩
      have bp := FB.push fc b2 hm2 tm2 hp rok rpb
      have hmU : (upd G2 ml (.lst (mv ++ [.ref p]))) ml = some (.lst (mv ++ [.ref p])) := upd_same
      have hpU : (upd G2 ml (.lst (mv ++ [.ref p]))) p = some (.tup r.vs) := by
        rw [upd_ne (ne_of hp hm2 (fun z => nomatch z))]
        exact hp
      have hplU : (upd G2 ml (.lst (mv ++ [.ref p]))) pl = some (.lst ((ptsK fs en ks (rows ++ ex)).map V.int)) := by
        rw [upd_ne b2.n9.symm]
        exact b2.p
      have hfU := b2.f.but (SameBut.upd (o := .lst (mv ++ [.ref p]))) hm2 b2.n6
      have hkU : (upd G2 ml (.lst (mv ++ [.ref p]))) kl = some (.lst (ks.map nI)) := by
        rw [upd_ne b2.n5]
        exact b2.k
      refine ⟨_, rfl, .inl ⟨rfl, _, SqL.of hplU⟩, _, rfl, _, rfl, ml, _, -1, .ref p, rfl, rfl, SqL.of hmU, at_last, _, rfl, _, rfl, _, rfl, _, rfl, p, pl, fl, kl, r, ptsK fs en ks (rows ++ ex), fs, en, ks, rfl, hpU, hplU, hfU, hkU, fc.en, fc.ko, by rw [ptsK_len]; exact rok, ?_⟩
      refine ⟨pl, _, _, rfl, rfl, hplU, sl_lt (by rw [List.length_map, ptsK_len]; omega), ex ++ [r], _, rfl, by rw [List.length_append, List.length_singleton, lx], ((B.trans (.one sb)).trans (.two SameBut.upd)).trans (.three SameBut.upd), ?_⟩
      rw [← List.append_assoc]
      exact bp.mono (by omega)
    · obtain ⟨ex, y, rfl, lx, B, b⟩ := hP
      exact q ex G lx B b
end
end E1

namespace E1
open PySem PySem.Spec PyProof.Rows L2

def HoldOk2 (fs : List FormP) (rows : List Row) (h : Hold) : Prop := h.k < fs.length ∧ inR (frm fs h.k).w h.s = true ∧ h.s.natAbs < 2 ^ 110 ∧ ∃ x, rows[h.l]? = some (.keep h.k x)
theorem HoldOk2.more {fs : List FormP} {rows t : List Row} {h : Hold} (k : HoldOk2 fs rows h) : HoldOk2 fs (rows ++ t) h := by
  obtain ⟨a, b, c, x, e⟩ := k
  refine ⟨a, b, c, x, ?_⟩
  rw [List.getElem?_append_left (List.getElem?_eq_some_iff.mp e).1]
  exact e
theorem HoldOk2.into {fs : List FormP} {rows t : List Row} {h : Hold} (k : HoldOk2 fs (rows ++ t) h) : ∀ {u : List Row}, HoldOk2 fs (rows ++ (t ++ u)) h := fun {u} => by
  rw [← List.append_assoc]
  exact k.more
def sp2Links : Sp := fun vs H Q _ => ∃ (a np fl kl ml pl : Addr) (fs : List FormP) (en : Nat) (ks : List Nat) (rows : List Row) (c : Int), vs = [.ref a, .ref np] ∧ H np = some (.tup [.ref fl, .int en, .ref ml, .ref kl, .ref pl]) ∧ FC fs en ks ∧ FB H a fl kl ml pl fs en ks rows c ∧ rows.length ≤ 50 ∧ 0 ≤ c ∧ c ≤ 5000 ∧
  ∀ (ex : List Row) (hs : List Hold) (l : Addr) (H' : Hp), ex.length ≤ ks.length → hs.map (·.k) = ks → (∀ h ∈ hs, HoldOk2 fs (rows ++ ex) h) → B3 a ml pl H H' → FB H' a fl kl ml pl fs en ks (rows ++ ex) (c + 20 * ks.length) → H l = none → l ≠ a → l ≠ ml → l ≠ pl → TL7 H' l (hs.map Hold.vs) → Q (.ref l) H'
theorem TL7.three {H H' : Hp} {l a m p : Addr} {xa xm xp : List V} {xss : List (List V)} (t : TL7 H l xss) (s : B3 a m p H H') (ha : H a = some (.lst xa)) (hm : H m = some (.lst xm)) (hp : H p = some (.lst xp)) (n1 : l ≠ a) (n2 : l ≠ m) (n3 : l ≠ p) : TL7 H' l xss := by
  obtain ⟨vs, e, tt⟩ := t
  exact ⟨vs, s _ _ n1 n2 n3 e, tt.mono fun _ _ e2 => s _ _ (ne_of e2 ha (fun z => nomatch z)) (ne_of e2 hm (fun z => nomatch z)) (ne_of e2 hp (fun z => nomatch z)) e2⟩
section
variable {P : Program} {w : World} {K : PySem.W.Frag} {mg : Str → Option Value} {base : Heap}
theorem sc__law_links : FnScope ["_law_well_here", "_law_net_here", "_law_forms", "_law_enters", "_law_rows", "_law_held", "_law_points", "_law_holds", "_law_form_here", "_law_at", "_law_some", "_law_near"] ["_law_well_here", "_law_net_here"] (defScope s__law_links) := ⟨rfl, rfl, rfl, by decide +kernel, rfl, by decide +kernel, by decide +kernel⟩
theorem ok__law_links {f : Addr} {fd : FuncData} (F : Fun K "_law_links" "_law_links" s__law_links f fd) (z : Zs mg) (c__law_draw : Cal P w K mg base 1 "_law_draw" ["_law_well_here", "_law_many"] spDraw) (c__law_word : Cal P w K mg base 2 "_law_word" ["_law_form_here", "_law_well_here"] sp2Word) : FnOk P w K mg base CX0 3 f fd ["_law_well_here", "_law_net_here"] sp2Links := by
  refine F.ok sc__law_links (fun vs H Q E h => ?_) (fun cdv A outer s H vs Q E hr h => ?_)
  · obtain ⟨a, np, fl, kl, ml, pl, fs, en, ks, rows, c, rfl, _⟩ := h
    rfl
  · obtain ⟨a, np, fl, kl, ml, pl, fs, en, ks, rows, c, rfl, hnp, fc, b0, r50, c0, c5, q⟩ := h
    refine ⟨_, (pss_cons (ps_asg (pv 1) (pg_tup (by rfl) (pgs_cons (pg_name (i := 2) sc__law_links.nd rfl (.inl rfl)) (pgs_cons (pg_name (i := 3) sc__law_links.nd rfl (.inl rfl)) (pgs_cons (pg_name (i := 4) sc__law_links.nd rfl (.inr rfl)) (pgs_cons (pg_name (i := 5) sc__law_links.nd rfl (.inl rfl)) (pgs_cons (pg_name (i := 6) sc__law_links.nd rfl (.inl rfl)) pgs_nil)))))))
      (pss_cons (ps_set (i := 7) sc__law_links.nd rfl (.inl rfl) (pe_lst pa_nil))
      (pss_cons (ps_for PassesOwn.never rfl (pi_list (pv 5)) (pg_name (i := 8) sc__law_links.nd rfl (.inr rfl)) (pss_cons (ps_setLc (i := 10) (own := [("_law_at", 9)]) (g := gName 9) (te := (tVar 9)) (tt := (tTest (tOp (rEqD K) (tSl (rSlA K) (tOp (rIxL K) (tVar 4) (tVar 9)) tNoPart (tPart (tC (.int 2)))) (tTup (tCons (tC (.str "keep")) (tCons (tVar 8) tNil)))))) (by rfl) sc__law_links.nd rfl rfl (sw_true rfl rfl rfl (by decide +kernel)) (pi_range1 (by rfl) z.range (pa_cons (pe_callB call_len_seq (by rfl) z.len PySem.boot_len (pa_cons (pv 4) pa_nil)) pa_nil)) (blkOk_by (own := [("_law_at", 9)]) (N := ["_law_well_here", "_law_net_here", "_law_forms", "_law_enters", "_law_rows", "_law_held", "_law_points", "_law_holds", "_law_form_here", "_law_at", "_law_some", "_law_near"]) (sc := defScope s__law_links) (by decide +kernel)) (fun _ _ _ _ _ => by exact (pg_name (i := 9) sc__law_links.nd rfl (.inl rfl))) (fun _ _ _ _ _ => by exact (pts_one (pt_cmpR (op_eqD hr.units) (pe_slice sl_tupA (pe_ix ix_list (pv 4) (pv 9) (fun _ _ => rfl)) po_none (po_some pe_int)) (pe_tup (pa_cons pe_str (pa_cons (pv 8) pa_nil))) (nomark _)))) (fun _ _ _ _ _ => by exact (pv 9)))
      (pss_cons (ps_set (i := 9) sc__law_links.nd rfl (.inl rfl) (pe_callB call_len_seq (by rfl) z.len PySem.boot_len (pa_cons (pv 4) pa_nil)))
      (C8.pss_cut (ps_if (PW.pt (pw_and (pt_cmpR (op_neD hr.units) (pv 10) (pe_lst pa_nil) (nomark _)) (pw_and1 (pt_cmpR op_eq (pe_cal c__law_draw hr (pa_cons (pv 0) (pa_cons pe_int pa_nil))) pe_int (nomark _))))) (pss_one (ps_set (i := 9) sc__law_links.nd rfl (.inl rfl) (pe_ix ix_list (pv 10) (pe_cal c__law_draw hr (pa_cons (pv 0) (pa_cons (pe_callB call_len_seq (by rfl) z.len PySem.boot_len (pa_cons (pv 10) pa_nil)) pa_nil))) (fun _ _ => rfl)))) (pss_cons (ps_set (i := 11) sc__law_links.nd rfl (.inl rfl) (pe_op op_sub (pe_op op_sub (pe_callB call_len_seq (by rfl) z.len PySem.boot_len (pa_cons (pv 4) pa_nil)) pe_int) (pe_cal c__law_draw hr (pa_cons (pv 0) (pa_cons (pe_callB (call_min2 rfl) (by rfl) z.min (by decide +kernel) (pa_cons pe_int (pa_cons (pe_callB call_len_seq (by rfl) z.len PySem.boot_len (pa_cons (pv 4) pa_nil)) pa_nil))) pa_nil)))))
      (pss_cons (ps_expr (pe_bm PySem.F.plainAttrs_list PySem.F.slot_list_append PySem.F.type_list_append mt_append (pv 4) (pa_cons (pe_tup (pa_cons pe_str (pa_cons (pv 8) (pa_cons (pe_ix ix_list (pe_lst (pa_cons (pv 11) (pa_cons (pe_cal c__law_draw hr (pa_cons (pv 0) (pa_cons (pe_callB call_len_seq (by rfl) z.len PySem.boot_len (pa_cons (pv 4) pa_nil)) pa_nil))) pa_nil))) (pe_cal c__law_draw hr (pa_cons (pv 0) (pa_cons pe_int pa_nil))) (fun _ _ => rfl)) pa_nil)))) pa_nil)))
      (pss_one (ps_expr (pe_bm PySem.F.plainAttrs_list PySem.F.slot_list_append PySem.F.type_list_append mt_append (pv 6) (pa_cons (pe_ix ix_tup (pe_ix ix_list (pv 2) (pv 8) (fun _ _ => rfl)) pe_int (fun _ _ => rfl)) pa_nil)))))))
      (pss_one (ps_expr (pe_bm PySem.F.plainAttrs_list PySem.F.slot_list_append PySem.F.type_list_append mt_append (pv 7) (pa_cons (pe_tup (pa_cons (pv 8) (pa_cons (pe_cal c__law_word hr (pa_cons (pe_ix ix_list (pv 2) (pv 8) (fun _ _ => rfl)) (pa_cons (pv 0) pa_nil))) (pa_cons (pv 9) pa_nil)))) pa_nil))))))))
      (pss_one (ps_ret (pv 7)))))), ?_⟩
    refine ⟨_, rfl, np, _, rfl, SqT.of hnp, rfl, _, _, rfl, _, _, rfl, _, _, rfl, _, _, rfl, _, _, rfl, rfl, (by show 0 ≤ sizeLine; decide), fun ll hll => ?_⟩
    generalize hG0 : upd _ ll _ = G0
    obtain ⟨s0, h_ll⟩ := upd_gen hG0 hll
    have b1 := b0.new s0
    have nla : ll ≠ a := b0.w.ne hll
    have nlm : ll ≠ ml := by
      obtain ⟨xs, e, _⟩ := b0.m
      exact (ne_of_none e hll).symm
    have nlp : ll ≠ pl := (ne_of_none b0.p hll).symm
    have nlk : kl ≠ ll := ne_of_none b0.k hll
    have k5 := fc.k5
    refine ⟨_, rfl, kl, rfl, ⟨_, SqL.of b1.k⟩, ?_⟩
    refine for_it (walk_list (K := K) (a := kl) (xs := ks.map nI)) (fun i σ G => ∃ (ex : List Row) (hs : List Hold) (y8 y9 y10 y11 : Option V), σ = [some (.ref a), some (.ref np), some (.ref fl), some (.int (en : Nat)), some (.ref ml), some (.ref kl), some (.ref pl), some (.ref ll), y8, y9, y10, y11] ∧ ex.length ≤ i ∧ hs.map (·.k) = ks.take i ∧ (∀ h ∈ hs, HoldOk2 fs (rows ++ ex) h) ∧ B3 a ml pl H G ∧ FB G a fl kl ml pl fs en ks (rows ++ ex) (c + 20 * i) ∧ TL7 G ll (hs.map Hold.vs)) ⟨[], [], none, none, none, none, rfl, Nat.le_refl _, rfl, (fun h x => nomatch x), .of s0, by rw [List.append_nil]; exact b1.mono (by omega), ⟨[], h_ll, .nil⟩⟩ (fun i σ G hi hP => ?_) (fun i x σ G G' hi hP hY => ?_) (fun σ G hP => ?_)
    · obtain ⟨ex, hs, y8, y9, y10, y11, rfl, _, _, _, _, b, _⟩ := hP
      exact SqL.of b.k
    · obtain ⟨ex, hs, y8, y9, y10, y11, rfl, lx, hke, hho, B, b, tl⟩ := hP
      obtain ⟨rfl, hx⟩ := hY
      rw [List.getElem?_map] at hx
      obtain ⟨kd, ekd, rfl⟩ := Option.map_eq_some_iff.mp hx
      have i5 : i < ks.length := (List.getElem?_eq_some_iff.mp ekd).1
      have kdl : kd < fs.length := fc.ko kd (List.mem_of_getElem? ekd)
      have lrx : (rows ++ ex).length ≤ 60 := by rw [List.length_append]; omega
      obtain ⟨mv, hmv, tmv⟩ := id b.m
      have lmv := tmv.rlen
      have hlen : hs.length = i := by
        have := congrArg List.length hke
        rw [List.length_map, List.length_take] at this
        omega
      refine ⟨_, rfl, ml, _, rfl, .inl (SqL.of hmv), mv.length, rfl, by omega, by omega, fun D hD => ?_⟩
      refine lc_it walk_range (fun j G2 => Same G' G2 ∧ ∃ ns : List Nat, G2 D = some (.lst (ns.map nI)) ∧ ns.length ≤ j ∧ ∀ n ∈ ns, ∃ y, (rows ++ ex)[n]? = some (.keep kd y)) ⟨same_new hD, [], upd_same, Nat.le_refl _, (fun n x => nomatch x)⟩ (fun _ _ _ _ => trivial) (fun j x G2 G3 hj hP hY => ?_) (fun G2 hP => ?_)
      · obtain ⟨s1, ns, hd, ln, hns⟩ := hP
        obtain ⟨rfl, rfl⟩ := hY
        obtain ⟨r, er⟩ : ∃ r, (rows ++ ex)[j]? = some r := ⟨_, List.getElem?_eq_getElem (by omega)⟩
        obtain ⟨p, ep, hp⟩ := tmv.at (i := j) (xs := r.vs) (by rw [List.getElem?_map, er]; rfl)
        replace hp := s1 _ _ hp
        have j0 : (0 : Int) + (j : Int) = (j : Nat) := Int.zero_add _
        refine ⟨rfl, _, rfl, _, rfl, ml, _, (0 : Int) + (j : Int), .ref p, rfl, rfl, SqL.of (s1 _ _ hmv), by rw [j0]; exact atI_nat ep, _, rfl, p, _, rfl, SqT.of hp, fun hwh => ?_, fun hwh c1 hc1 => ?_⟩
        · refine ⟨_, rfl, (by show 2 ≤ sizeLine; decide), fun c2 hc2 => ?_⟩
          generalize hG2 : upd _ c2 _ = G2
          obtain ⟨s4, h_c2⟩ := upd_gen hG2 hc2
          have S := s4
          refine ⟨.tuple r.d2, .tuple [.str "keep", .int kd], .tup (SqT.of (s4 _ _ hp)) (r.dp1 hwh), .tup (SqT.of h_c2) (.cons (.str _) (.cons (.int _) .nil)), r.d2_shaped, kp_shaped _, _, rfl, ?_⟩
          refine ite2 (fun heq => ?_) (fun _ => ?_)
          · obtain ⟨y, rfl⟩ := r.d2_keep kd heq
            refine ⟨_, rfl, _, S _ _ hd, sl_lt (by rw [List.length_map]; omega), fun b o e => ?_, ns ++ [j], ?_, ?_, ?_⟩
            · rw [upd_ne (ne_of_none e hD)]
              exact S _ _ (s1 _ _ e)
            · rw [upd_same, List.map_append]
              show some (HO.lst (_ ++ [V.int (0 + (j : Int))])) = some (.lst (_ ++ [V.int (j : Int)]))
              rw [Int.zero_add]
            · rw [List.length_append, List.length_singleton]
              omega
            · intro n hn
              rcases List.mem_append.mp hn with hn | hn
              · exact hns n hn
              · rw [List.mem_singleton.mp hn]
                exact ⟨y, er⟩
          · exact ⟨s1.trans S, ns, S _ _ hd, by omega, hns⟩
        · generalize hG1 : upd _ c1 _ = G1
          obtain ⟨s5, h_c1⟩ := upd_gen hG1 hc1
          refine ⟨_, rfl, (by show 2 ≤ sizeLine; decide), fun c2 hc2 => ?_⟩
          generalize hG2 : upd _ c2 _ = G2
          obtain ⟨s4, h_c2⟩ := upd_gen hG2 hc2
          have S := s5.trans s4
          refine ⟨.tuple r.d2, .tuple [.str "keep", .int kd], .tup (SqT.of (s4 _ _ h_c1)) r.dp2, .tup (SqT.of h_c2) (.cons (.str _) (.cons (.int _) .nil)), r.d2_shaped, kp_shaped _, _, rfl, ?_⟩
          refine ite2 (fun heq => ?_) (fun _ => ?_)
          · obtain ⟨y, rfl⟩ := r.d2_keep kd heq
            refine ⟨_, rfl, _, S _ _ hd, sl_lt (by rw [List.length_map]; omega), fun b o e => ?_, ns ++ [j], ?_, ?_, ?_⟩
            · rw [upd_ne (ne_of_none e hD)]
              exact S _ _ (s1 _ _ e)
            · rw [upd_same, List.map_append]
              show some (HO.lst (_ ++ [V.int (0 + (j : Int))])) = some (.lst (_ ++ [V.int (j : Int)]))
              rw [Int.zero_add]
            · rw [List.length_append, List.length_singleton]
              omega
            · intro n hn
              rcases List.mem_append.mp hn with hn | hn
              · exact hns n hn
              · rw [List.mem_singleton.mp hn]
                exact ⟨y, er⟩
          · exact ⟨s1.trans S, ns, S _ _ hd, by omega, hns⟩
      obtain ⟨s1, ns, hd, ln, hns⟩ := hP
      have b2 := b.new s1
      have B2 := B.trans (.of s1)
      have tl2 := tl.same s1
      have hmv2 := s1 _ _ hmv
      have nDa : D ≠ a := b.w.ne hD
      have nDm : D ≠ ml := (ne_of_none hmv hD).symm
      have nDp : D ≠ pl := (ne_of_none b.p hD).symm
      refine ⟨_, rfl, ml, _, rfl, .inl (SqL.of hmv2), ?_⟩
      refine ⟨fun σ G4 => ∃ (ex2 : List Row) (at4 : Nat) (y11 : Option V), σ = [some (.ref a), some (.ref np), some (.ref fl), some (.int (en : Nat)), some (.ref ml), some (.ref kl), some (.ref pl), some (.ref ll), some (.int (kd : Nat)), some (.int (at4 : Nat)), some (.ref D), y11] ∧ ex2.length ≤ i + 1 ∧ (∀ h ∈ hs, HoldOk2 fs (rows ++ ex2) h) ∧ (∃ y, (rows ++ ex2)[at4]? = some (.keep kd y)) ∧ B3 a ml pl H G4 ∧ FB G4 a fl kl ml pl fs en ks (rows ++ ex2) (c + 20 * i + 10) ∧ TL7 G4 ll (hs.map Hold.vs), ?_, fun σ G4 hM => ?_⟩
      · refine ⟨_, rfl, (by show 0 ≤ sizeLine; decide), fun z hz => ?_⟩
        generalize hG1 : upd _ z _ = G3
        obtain ⟨s2, h_z⟩ := upd_gen hG1 hz
        refine ⟨.list ((ns.map fun n : Nat => (n : Int)).map PyData.int), .list (([] : List Int).map PyData.int), .lst (SqL.of (s2 _ _ hd)) (dp_nats ns), .lst (SqL.of h_z) .nil, PySem.W.ke_shaped_ints _, PySem.W.ke_shaped_ints _, _, rfl, ?_⟩
        have b3 := (b2.new s2).mono (c' := c + 20 * i + 1) (by omega)
        have B3' := B2.trans (.of s2)
        have tl3 := tl2.same s2
        cases ns with
        | nil =>
          refine iteF (iteF ?_)
          obtain ⟨mv5, hmv5, tmv5⟩ := id b3.m
          have lmv5 := tmv5.rlen
          refine ⟨_, rfl, ml, _, rfl, .inl (SqL.of hmv5), _, _, rfl, rfl, _, rfl, _, rfl, ml, _, rfl, .inl (SqL.of hmv5), _, _, rfl, a, _, (if (mv5.length : Int) < 4 then (mv5.length : Int) else 4), rfl, b3.w, by omega, by have := b3.l1; split <;> omega, Nat.lt_of_le_of_lt (show _ ≤ 1000 by split <;> omega) (by decide +kernel), fun r5 H5 r50' r51 d5 e5 w5 => ⟨_, _, rfl, rfl, ?_⟩⟩
          have r5b : r5 < mv5.length := by
            have := r51
            split at this <;> omega
          have b5 := (b3).one d5 w5
          obtain ⟨gx5, hgx5⟩ := (b3).w.lst
          have tl5 := (tl3).but d5 hgx5 nla
          have hm5 := d5 _ _ (b3).n3 hmv5
          refine ⟨_, rfl, .inl ⟨rfl, _, SqL.of hm5⟩, _, rfl, _, rfl, _, rfl, _, rfl, ml, _, rfl, .inl (SqL.of hm5), a, _, (mv5.length : Int), rfl, w5, by omega, by omega, Nat.lt_of_le_of_lt (show _ ≤ 1000 by omega) (by decide +kernel), fun r6 H6 r60 r61 d6 e6 w6 => ⟨(by show 2 ≤ sizeLine; decide), fun l4 hl4 => ?_⟩⟩
          generalize hG4 : upd _ l4 _ = G4
          obtain ⟨s4, h_l4⟩ := upd_gen hG4 hl4
          refine ⟨_, rfl, a, _, 2, rfl, w6.same s4, by omega, by decide, by decide +kernel, fun r7 H7 r70 r71 d7 e7 w7 => ?_⟩
          obtain ⟨v, iv, ov⟩ := twoN (x := (mv5.length : Int) - 1 - r5) (y := r6) r70 r71
          obtain ⟨x, rfl, xl⟩ : ∃ x : Nat, v = (x : Int) ∧ x < (rows ++ ex).length := by
            rcases ov with e | e
            · exact ⟨((mv5.length : Int) - 1 - r5).toNat, by omega, by omega⟩
            · exact ⟨r6.toNat, by omega, by omega⟩
          have n4 := w6.ne hl4
          refine ⟨l4, _, _, _, rfl, rfl, SqL.of (d7 _ _ n4 h_l4), iv, (by show 3 ≤ sizeLine; decide), fun p hp => ?_⟩
          generalize hG8 : upd _ p _ = G8
          obtain ⟨s8, h_p⟩ := upd_gen hG8 hp
          have b6 := b5.one d6 w6
          have b7 := (b6.new s4).one d7 w7
          have b8 := b7.new s8
          obtain ⟨gx6, hgx6⟩ := b5.w.lst
          obtain ⟨gx7, hgx7⟩ := (b6.new s4).w.lst
          have tl8 := (((tl5.but d6 hgx6 nla).same s4).but d7 hgx7 nla).same s8
          have BB8 := (((((B3').trans (.one d5)).trans (.one d6)).trans (.of s4)).trans (.one d7)).trans (.of s8)
          obtain ⟨mv8, hmv8, tmv8⟩ := id b8.m
          have lmv8 := tmv8.rlen
          have em8 : mv8 = mv5 := by
            have := s8 _ _ (d7 _ _ b5.n3 (s4 _ _ (d6 _ _ b5.n3 hm5)))
            rw [hmv8] at this
            injection this with this
            injection this
          subst em8
          refine ⟨ml, _, _, rfl, rfl, hmv8, sl_lt (by omega), ?_⟩
          have hplU : (upd G8 ml (.lst (mv8 ++ [.ref p]))) pl = some (.lst ((ptsK fs en ks (rows ++ ex)).map V.int)) := by
            rw [upd_ne b8.n9.symm]
            exact b8.p
          have hfU := b8.f.but (SameBut.upd (o := .lst (mv8 ++ [.ref p]))) hmv8 b8.n6
          have efk := List.getElem?_eq_getElem kdl
          obtain ⟨fvk, hfvk, tfvk⟩ := id hfU
          obtain ⟨fpk, epk, hfpk⟩ := tfvk.at (i := kd) (xs := (fs[kd]).vs) (by rw [List.getElem?_map, efk]; rfl)
          have bp := FB.push fc b8 hmv8 tmv8 (p := p) (r := .keep kd x) h_p ⟨kdl, xl⟩ trivial
          have epf : rowPt (fpt fs en) (ks.map (fpt fs)) (fs.map (·.pt)) (ptsK fs en ks (rows ++ ex)) (.keep kd x) = (fs[kd]).pt := fpt_at efk
          rw [epf] at bp
          refine ⟨_, rfl, .inl ⟨rfl, _, SqL.of hplU⟩, _, rfl, _, rfl, fl, _, _, .ref fpk, rfl, rfl, SqL.of hfvk, atI_nat epk, fpk, _, 1, .int _, rfl, rfl, SqT.of hfpk, a1, pl, _, _, rfl, rfl, hplU, sl_lt (by rw [List.length_map, ptsK_len]; omega), ?_⟩
          refine ⟨ex ++ [.keep kd x], mv.length, _, rfl, by rw [List.length_append, List.length_singleton]; omega, fun h hh => (hho h hh).into, ⟨x, ?_⟩, (BB8.trans (.two SameBut.upd)).trans (.three SameBut.upd), by rw [← List.append_assoc]; exact bp.mono (by omega), ?_⟩
          · rw [lmv, ← List.append_assoc, List.getElem?_append_right (Nat.le_refl _), Nat.sub_self]
            rfl
          · exact (tl8.but SameBut.upd hmv8 nlm).but SameBut.upd hplU nlp
        | cons n0 nt =>
          refine iteT ⟨_, rfl, a, c + 20 * i + 1, 3, rfl, b3.w, by omega, by decide, by decide +kernel, fun r3 H3 r30 r31 d3 e3 w3 => ⟨rfl, _, rfl, ite2 (fun _ => ?_) (fun _ => ?_)⟩⟩
          · have bb3 := b3.one d3 w3
            have hd3 := d3 _ _ nDa (s2 _ _ hd)
            refine ⟨_, rfl, _, rfl, _, rfl, D, _, rfl, .inl (SqL.of hd3), a, c + 20 * i + 1 + 1, _, rfl, w3, by omega, by rw [List.length_map, List.length_cons]; omega, Nat.lt_of_le_of_lt (show _ ≤ 1000 by rw [List.length_map]; omega) (by decide +kernel), fun r4 H4 r40 r41 d4 e4 w4 => ?_⟩
            rw [List.length_map] at r41
            obtain ⟨j, rfl⟩ : ∃ j : Nat, r4 = (j : Int) := ⟨r4.toNat, by omega⟩
            have jl : j < (n0 :: nt).length := by omega
            have ej := List.getElem?_eq_getElem jl
            obtain ⟨y, ey⟩ := hns _ (List.getElem_mem jl)
            obtain ⟨gp, hgp⟩ := b3.m
            refine ⟨D, _, _, _, rfl, rfl, SqL.of (d4 _ _ nDa hd3), atI_nat (by rw [List.getElem?_map, ej]; rfl), ex, _, _, rfl, by omega, hho, ⟨y, ey⟩, B3'.trans (.one (d3.trans d4)), (bb3.one d4 w4).mono (by omega), ?_⟩
            obtain ⟨gx, hgx⟩ := b3.w.lst
            obtain ⟨gx2, hgx2⟩ := w3.lst
            exact (tl3.but d3 hgx nla).but d4 hgx2 nla
          · have bb3 := b3.one d3 w3
            obtain ⟨gx, hgx⟩ := b3.w.lst
            obtain ⟨mv5, hmv5, tmv5⟩ := id bb3.m
            have lmv5 := tmv5.rlen
            refine ⟨_, rfl, ml, _, rfl, .inl (SqL.of hmv5), _, _, rfl, rfl, _, rfl, _, rfl, ml, _, rfl, .inl (SqL.of hmv5), _, _, rfl, a, _, (if (mv5.length : Int) < 4 then (mv5.length : Int) else 4), rfl, bb3.w, by omega, by have := bb3.l1; split <;> omega, Nat.lt_of_le_of_lt (show _ ≤ 1000 by split <;> omega) (by decide +kernel), fun r5 H5 r50' r51 d5 e5 w5 => ⟨_, _, rfl, rfl, ?_⟩⟩
            have r5b : r5 < mv5.length := by
              have := r51
              split at this <;> omega
            have b5 := (bb3).one d5 w5
            obtain ⟨gx5, hgx5⟩ := (bb3).w.lst
            have tl5 := ((tl3.but d3 hgx nla)).but d5 hgx5 nla
            have hm5 := d5 _ _ (bb3).n3 hmv5
            refine ⟨_, rfl, .inl ⟨rfl, _, SqL.of hm5⟩, _, rfl, _, rfl, _, rfl, _, rfl, ml, _, rfl, .inl (SqL.of hm5), a, _, (mv5.length : Int), rfl, w5, by omega, by omega, Nat.lt_of_le_of_lt (show _ ≤ 1000 by omega) (by decide +kernel), fun r6 H6 r60 r61 d6 e6 w6 => ⟨(by show 2 ≤ sizeLine; decide), fun l4 hl4 => ?_⟩⟩
            generalize hG4 : upd _ l4 _ = G4
            obtain ⟨s4, h_l4⟩ := upd_gen hG4 hl4
            refine ⟨_, rfl, a, _, 2, rfl, w6.same s4, by omega, by decide, by decide +kernel, fun r7 H7 r70 r71 d7 e7 w7 => ?_⟩
            obtain ⟨v, iv, ov⟩ := twoN (x := (mv5.length : Int) - 1 - r5) (y := r6) r70 r71
            obtain ⟨x, rfl, xl⟩ : ∃ x : Nat, v = (x : Int) ∧ x < (rows ++ ex).length := by
              rcases ov with e | e
              · exact ⟨((mv5.length : Int) - 1 - r5).toNat, by omega, by omega⟩
              · exact ⟨r6.toNat, by omega, by omega⟩
            have n4 := w6.ne hl4
            refine ⟨l4, _, _, _, rfl, rfl, SqL.of (d7 _ _ n4 h_l4), iv, (by show 3 ≤ sizeLine; decide), fun p hp => ?_⟩
            generalize hG8 : upd _ p _ = G8
            obtain ⟨s8, h_p⟩ := upd_gen hG8 hp
            have b6 := b5.one d6 w6
            have b7 := (b6.new s4).one d7 w7
            have b8 := b7.new s8
            obtain ⟨gx6, hgx6⟩ := b5.w.lst
            obtain ⟨gx7, hgx7⟩ := (b6.new s4).w.lst
            have tl8 := (((tl5.but d6 hgx6 nla).same s4).but d7 hgx7 nla).same s8
            have BB8 := ((((((B3'.trans (.one d3))).trans (.one d5)).trans (.one d6)).trans (.of s4)).trans (.one d7)).trans (.of s8)
            obtain ⟨mv8, hmv8, tmv8⟩ := id b8.m
            have lmv8 := tmv8.rlen
            have em8 : mv8 = mv5 := by
              have := s8 _ _ (d7 _ _ b5.n3 (s4 _ _ (d6 _ _ b5.n3 hm5)))
              rw [hmv8] at this
              injection this with this
              injection this
            subst em8
            refine ⟨ml, _, _, rfl, rfl, hmv8, sl_lt (by omega), ?_⟩
            have hplU : (upd G8 ml (.lst (mv8 ++ [.ref p]))) pl = some (.lst ((ptsK fs en ks (rows ++ ex)).map V.int)) := by
              rw [upd_ne b8.n9.symm]
              exact b8.p
            have hfU := b8.f.but (SameBut.upd (o := .lst (mv8 ++ [.ref p]))) hmv8 b8.n6
            have efk := List.getElem?_eq_getElem kdl
            obtain ⟨fvk, hfvk, tfvk⟩ := id hfU
            obtain ⟨fpk, epk, hfpk⟩ := tfvk.at (i := kd) (xs := (fs[kd]).vs) (by rw [List.getElem?_map, efk]; rfl)
            have bp := FB.push fc b8 hmv8 tmv8 (p := p) (r := .keep kd x) h_p ⟨kdl, xl⟩ trivial
            have epf : rowPt (fpt fs en) (ks.map (fpt fs)) (fs.map (·.pt)) (ptsK fs en ks (rows ++ ex)) (.keep kd x) = (fs[kd]).pt := fpt_at efk
            rw [epf] at bp
            refine ⟨_, rfl, .inl ⟨rfl, _, SqL.of hplU⟩, _, rfl, _, rfl, fl, _, _, .ref fpk, rfl, rfl, SqL.of hfvk, atI_nat epk, fpk, _, 1, .int _, rfl, rfl, SqT.of hfpk, a1, pl, _, _, rfl, rfl, hplU, sl_lt (by rw [List.length_map, ptsK_len]; omega), ?_⟩
            refine ⟨ex ++ [.keep kd x], mv.length, _, rfl, by rw [List.length_append, List.length_singleton]; omega, fun h hh => (hho h hh).into, ⟨x, ?_⟩, (BB8.trans (.two SameBut.upd)).trans (.three SameBut.upd), by rw [← List.append_assoc]; exact bp.mono (by omega), ?_⟩
            · rw [lmv, ← List.append_assoc, List.getElem?_append_right (Nat.le_refl _), Nat.sub_self]
              rfl
            · exact (tl8.but SameBut.upd hmv8 nlm).but SameBut.upd hplU nlp
      obtain ⟨ex2, at4, y11, rfl, lx2, hho2, ⟨yy, eyy⟩, B4, b4, tl4⟩ := hM
      have ef := List.getElem?_eq_getElem kdl
      have efr := frm_at ef
      obtain ⟨fv, hfv, tfv⟩ := id b4.f
      obtain ⟨fp, ep, hfp⟩ := tfv.at (i := kd) (xs := (frm fs kd).vs) (by rw [List.getElem?_map, ef, efr]; rfl)
      have fo : (frm fs kd).Ok := by
        rw [efr]
        exact fc.fo _ (List.getElem_mem kdl)
      obtain ⟨lv, hlv, tlv⟩ := id tl4
      have llv := tlv.len
      rw [List.length_map] at llv
      refine ⟨_, rfl, .inl ⟨rfl, _, SqL.of hlv⟩, _, rfl, _, rfl, _, rfl, fl, _, _, .ref fp, rfl, rfl, SqL.of hfv, atI_nat ep, _, rfl, a, fp, frm fs kd, _, rfl, hfp, fo, b4.w, by omega, by omega, fun s G5 hin sz sb5 w5 => ⟨_, rfl, (by show 3 ≤ sizeLine; decide), fun p hp => ?_⟩⟩
      obtain ⟨gx4, hgx4⟩ := b4.w.lst
      have b5 := b4.one sb5 w5
      generalize hGp : upd _ p _ = G6
      obtain ⟨s6, h_p⟩ := upd_gen hGp hp
      have hlv6 := s6 _ _ (sb5 _ _ nla hlv)
      have tlv6 := (tlv.but sb5 hgx4).same s6
      have b6 := b5.new s6
      have B6 := (B4.trans (.one sb5)).trans (.of s6)
      refine ⟨ll, _, _, rfl, rfl, hlv6, sl_lt (by omega), ex2, hs ++ [⟨kd, s, at4⟩], _, _, _, _, rfl, lx2, ?_, fun h hh => ?_, ?_, ?_, ⟨_, upd_same, ?_⟩⟩
      · rw [List.map_append, hke, List.take_add_one, ekd]
        rfl
      · rcases List.mem_append.mp hh with hh | hh
        · exact hho2 h hh
        · rw [List.mem_singleton.mp hh]
          exact ⟨kdl, hin, sz, yy, eyy⟩
      · refine fun b o n1 n2 n3 e => ?_
        rw [upd_ne (ne_of_none e hll)]
        exact B6 b o n1 n2 n3 e
      · have nlf : fl ≠ ll := by
          obtain ⟨xs, e, _⟩ := b0.f
          exact ne_of_none e hll
        exact (b6.list hlv6 nla.symm nlf nlk nlm.symm nlp.symm).mono (by omega)
      · rw [List.map_append]
        exact TsAt.push hlv6 tlv6 h_p
    · obtain ⟨ex, hs, y8, y9, y10, y11, rfl, lx, hke, hho, B, b, tl⟩ := hP
      rw [List.length_map] at lx hke b
      rw [List.take_length] at hke
      exact ⟨_, rfl, q ex hs ll G lx hke hho B b hll nla nlm nlp tl⟩
end
end E1

namespace E1
open PySem PySem.Spec PyProof.Rows L2
section
variable {X : Cx} {P : Program} {w : World} {A : Around} {E : Value → Shared → Prop} {s : Shared}
/-- a set as it is made, with nothing in it -/
abbrev noneIn (w : World) : Obj := { cls := .type "set", dict := none, data := .set #[] 0 (.fresh 0 0 (!w.params.followText "set-order")) }
set_option maxRecDepth 100000 in
set_option maxHeartbeats 3200000 in
/-- set(xs) of a list of whole numbers -/
theorem call_setL {l : Addr} {items : Array Value} (ns : List Int) {Q : Value → Shared → Prop} (hh : A.handled = none) (hl : s.heap.IsList l items) (hit : IntsAre items.toList ns) (hb : ns.length + 1 < scanBound)
    (h : ∀ (h' : Heap) (tk c : Nat), SetR w h' s.heap.objs.size (fun j => decide (j ∈ ns)) c → c ≤ ns.length → (∀ b o, s.heap.get? b = some o → h'.get? b = some o) → Q (.ref s.heap.objs.size) { s with heap := h', toks := tk }) :
    wpAny (model P w) A (call (.type "set") [.ref l]) Q E s := by
  have many : items.size = ns.length := by
    rw [← Array.length_toList]
    exact IntsAre.length hit
  have ⟨cM, tM, mM⟩ := F.called_set.mro
  have mk1 := F.called_set.made
  have sb1 := F.called_set.sub
  have nt1 := F.called_set.notType
  have cc1 := F.called_set.canCreate
  have tc1 := F.typeCall_set_1 (.ref l)
  refine wpAny_call (codeAny_of_tree ?_)
  change wpAny _ _ (callAny (.type "set") _) _ _ _
  refine wpAny_pure ⟨Code.quiet_builtin _ (by decide +kernel), codeAny_builtin F.entry_type_call ?_⟩
  rw [Around.under_plain (weight_type_call_type "set" [.ref l] []) rfl]
  repeat (any_goals (first | assumption | wp_step))
  refine codeAny_mono (code_set_led1 (.ref l) (E := E) (Q₁ := fun x y => x = .ref s.heap.objs.size ∧ y = { s with heap := s.heap.push (noneIn w) }) ⟨rfl, rfl⟩) fun r y hr => ?_
  match r, hr with
  | .error e, hr => exact hr
  | .ok (.ret x), hr =>
    obtain ⟨ex, ey⟩ := hr
    subst ex ey
    generalize hH : s.heap.push (noneIn w) = hp1
    have at1 : hp1.get? s.heap.objs.size = some (noneIn w) := by
      rw [← hH]
      exact Heap.get?_push_size _ rfl
    have old1 : ∀ b o, s.heap.get? b = some o → hp1.get? b = some o := fun b o e => by
      rw [← hH]
      exact Heap.get?_push_of_some _ e
    have sz1 : hp1.objs.size = s.heap.objs.size + 1 := by
      rw [← hH]
      exact Heap.size_push ..
    have ty1 : Shared.TypeIs { s with heap := hp1 } (.ref s.heap.objs.size) "set" := ⟨_, at1, rfl⟩
    have lk := F.called_set.init.lookup
    have bd := F.called_set.init.bind (.ref s.heap.objs.size)
    repeat (any_goals (first | assumption | wp_step))
    refine codeAny_mono (codeAny_call_builtin (R := wants (fun r y => r = .none ∧ ∃ h' tk c, y = { s with heap := h', toks := tk } ∧ SetR w h' s.heap.objs.size (fun j => decide (j ∈ ns)) c ∧ c ≤ ns.length ∧
        (∀ b o, s.heap.get? b = some o → h'.get? b = some o)) E) F.called_set.init.plain F.entry_set_init (check_set_init_1 ty1 ?_)) fun r2 y2 hr2 => ?_
    · obtain ⟨⟨lc, ld, lx, ls⟩, hol, hcl, nl, hdl⟩ := hl
      replace hcl : lc = .type "list" := hcl
      replace hdl : lx = .seq items nl := hdl
      subst hcl hdl
      have lt1 : @LT.lt Nat _ l s.heap.objs.size := Heap.lt_size hol
      have hol1 := old1 _ _ hol
      have sls := F.sub_list_set
      have slf := F.sub_list_frozenset
      have ned : (Value.type "list" == Value.type "dict") = false := by decide
      have il1 : hp1.IsList l items := ⟨_, hol1, rfl, nl, rfl⟩
      unfold Builtin.«set.__init__» noKeywords Builtin.Frozenset.updateFrom
      generalize hPI : pyIter = PI
      wp_walk
      subst hPI
      refine wpAny_pyIter_list il1 (wpAny_bind (wpAny_runValue ?_))
      have calm3 : A.in1.in1.in1.handled = none := by simp [hh]
      have nl1 : l ≠ hp1.objs.size := fun z => by
        have z2 : @Eq Nat l hp1.objs.size := z
        omega
      have each : ∀ (i : Nat) (v : Value), items[i]? = some v → ∃ k t, ns[i]? = some k ∧ v = .int k t := fun i v hv => by
        have il := (Array.getElem?_eq_some_iff.mp hv).1
        rw [many] at il
        obtain ⟨t, e⟩ := PyProof.Rows.IntsAre.int_at hit i v (by rwa [Array.getElem?_toList])
        refine ⟨_, t, List.getElem?_eq_getElem il, ?_⟩
        rw [e, List.getD_eq_getElem?_getD, List.getElem?_eq_getElem il, Option.getD_some]
      have out1 : s.heap.objs.size ∉ [hp1.objs.size, l] := by
        intro z
        rcases List.mem_cons.mp z with z | z
        · have z2 : @Eq Nat s.heap.objs.size hp1.objs.size := z
          omega
        · have z2 : @Eq Nat s.heap.objs.size l := List.mem_singleton.mp z
          omega
      refine set_update_ints ((Walks.list calm3 _ l nl1 items).toS) s.heap.objs.size out1 ns many hb each (items.size - 0) 0 _ (by omega) (Nat.zero_le _) ⟨⟨_, Heap.get?_push_size _ rfl, rfl, rfl⟩, il1.push _⟩ ⟨0, Nat.le_refl 0, setR_new_at (Heap.get?_push_of_some _ at1)⟩ fun z c2 moved c2n R2 => ?_
      obtain ⟨h2, g2, d2, t2, o2⟩ := z
      have eg : g2 = s.gens := moved.gens
      have ed : d2 = s.drawn := moved.drawn
      have eo : o2 = s.os := moved.os
      subst eg ed eo
      rw [many] at c2n
      change wpAny _ _ _ _ _ _
      refine wpAny_pure ?_
      change wpAny _ _ (ret Value.none) _ _ _
      refine wpAny_pure ⟨rfl, h2, t2, c2, rfl, R2, c2n, fun b o e => ?_⟩
      have bl : @LT.lt Nat _ b s.heap.objs.size := Heap.lt_size e
      refine moved.heap b o (fun z => ?_) (Heap.get?_push_of_some _ (old1 _ _ e))
      rcases List.mem_cons.mp z with z | z
      · have z2 : @Eq Nat b s.heap.objs.size := z
        omega
      · have z2 : @Eq Nat b hp1.objs.size := List.mem_singleton.mp z
        omega
    · match r2, hr2 with
      | .error e, hr2 => exact hr2
      | .ok (.ret x), hr2 =>
        obtain ⟨ex, h2, t2, c2, ey, R2, c2n, k2⟩ := hr2
        subst ex ey
        repeat (any_goals (first | assumption | wp_step))
        exact h _ _ _ R2 c2n k2
/-- set(xs), xs a list of whole numbers -/
def rSetL (K : PySem.W.Frag) (w : World) : List V → Hp → VK → Prop := fun xs H Q => ∃ (p : Addr) (ns : List Int), xs = [.ref p] ∧ SqL K H p (ns.map V.int) ∧ ns.length ≤ 1000 ∧
  ∀ (q : Addr) (n : Nat), H q = none → n ≤ ns.length → Q (.ref q) (upd H q (SetO w q (fun j => decide (j ∈ ns)) n))
theorem cr_setL (hc : X.calm = true) : CallR X (.type "set") (rSetL X.K X.w) := by
  intro pins s σ H xs us Q I r h
  obtain ⟨p, ns, rfl, hq, hl, q⟩ := h
  rw [Vals.ref1 r]
  obtain ⟨its, rv, pt, hz⟩ := I.list hq
  have hi : IntsAre its.toArray.toList ns := ints_of_vals rv
  refine call_setL ns (I.ok.hd hc) (let ⟨o, n, e1, e2, _, e3⟩ := pt; ⟨o, e1, e2, n, e3⟩) hi (by unfold scanBound; omega) fun h' tk c R1 hcn k => ?_
  have hn : H s.heap.objs.size = none := I.hok.fresh (Nat.le_refl _)
  exact ⟨.ref _, upd H s.heap.objs.size (SetO X.w s.heap.objs.size (fun j => decide (j ∈ ns)) c), I.laid (t' := tk) k (Nat.le_refl _) (setO_new R1), rfl, q _ c hn hcn⟩
end
end E1
namespace E1
open PySem PySem.Spec PyProof.Rows L2
/-! ### str, repr and == by own methods -/
section
variable {X : Cx} {k : Nat} {C f : Addr} {fd : FuncData} {ps : List Str} {sp : Sp}
theorem run_own {pins : List (Addr × Obj)} {σ : L2.St} {H : Hp} {s : Shared} {A' : Around} {Q : VK} {us : List Value} {vs : List V} (F : FnOk X.prog X.w X.K X.mg X.base CX0 k f fd ps sp) (rm : Room k A') (fr : A'.frames = X.A.frames) (hb : Binds X.K fd ps []) (I : Inv X pins σ H s) (r : Vals vs us) (h : sp vs H Q E0) :
    wpAny (model X.prog X.w) A' (call (.ref f) us) (EP X pins σ Q) X.xe s := by
  have e0 : Env0 X.prog X.w X.K X.mg X.base A' X.stack s H := { I.env0 with frames := by rw [fr]; exact I.env0.frames }
  have hl : us.length = ps.length := by rw [← r.length]; exact F.len _ _ _ _ h
  have bb := hb s us I.kIn (by rw [List.append_nil]; exact hl)
  rw [List.append_nil] at bb
  refine wpAny_call (codeAny_mono (F.run A' X.stack s H ⟨us, []⟩ us vs Q E0 rm e0 bb r h) fun r s' hq => ?_)
  match r, hq with
  | .error e, hq => exact (show False from hq).elim
  | .ok (.ret u), hq => exact I.after hq
  | .ok .next, hq => exact hq.elim
  | .ok .brk, hq => exact hq.elim
  | .ok .cont, hq => exact hq.elim
end
end E1
namespace PySem.W
open PySem PySem.Calls PyProof.Rows
section
variable {prog : Program} {w : World} {A : Around} {E : Value → Shared → Prop} {s : Shared} {K : Frag} {x C f : Addr} {ox : Obj} {od : Option Obj} {b tb : Value}
/-- object's own != of an instance with an == of its own -/
theorem own_ne {Q : Value → Shared → Prop} (hu : A.units + 1 < cLine) (X : K.In s.heap) (I : InstAt s.heap x ox C od) (ob : subIn K (.ref C) (.type "object") = some true)
    (hs : findIn K (.ref C) "__eq__" = some (some (.ref f))) (hf : isFn K (.ref f) = true)
    (h : wpAny (model prog w) A.in1 (call (.ref f) [.ref x, b]) (fun v s' => ∃ r, v = .bool r ∧ Q (.bool (!r)) s') E s) :
    wpAny (model prog w) A (call (.builtin "object.__ne__") [.ref x, b]) Q E s := by
  refine wpAny_call (codeAny_call_builtin F.slot_enumerate_ne.plain F.cmpEntry_ne (check_slot F.cmpKind_ne F.cmpSplit_ne (I.type.andThen (looks_subIn X ob)) (F.cmpArgs_ne _ _) ?_))
  unfold Builtin.«object.__ne__»
  have hu1 : A.in1.units < cLine := by first | exact Nat.lt_of_succ_lt hu | exact hu
  repeat (first
    | with_reducible refine wpAny_cRoomFor hu1 ?_
    | (refine wpAny_bind (m := callSpecialIfBound? (.ref x) (Str.ofString "__eq__") [b])
        (ifBound_K X I hs hf (wpAny_mono h (fun v s' hv => ?_) fun _ _ e => e))
       obtain ⟨r, rfl, hq⟩ := hv)
    | (refine wpAny_bind (m := truthy (.bool _)) (wpAny_truthy_bool ?_))
    | exact hq
    | exact wpAny_pure hq
    | wp_step)
  done
/-- != of an instance with an == of its own, by object's != -/
theorem ne_K {Q : Value → Shared → Prop} (hu : A.units + 1 < cLine) (X : K.In s.heap) (I : InstAt s.heap x ox C od) (hb : Looks (model prog w) s.heap (typeOf b) tb) (hn : notFirst K C tb = true) (ob : subIn K (.ref C) (.type "object") = some true)
    (hne : findIn K (.ref C) "__ne__" = some (some (.builtin "object.__ne__"))) (hs : findIn K (.ref C) "__eq__" = some (some (.ref f))) (hf : isFn K (.ref f) = true)
    (h : wpAny (model prog w) A.in1 (call (.ref f) [.ref x, b]) (fun v s' => ∃ r, v = .bool r ∧ Q (.bool (!r)) s') E s) : wpAny (model prog w) A (richCompare .NotEq (.ref x) b) Q E s := by
  have told : wpAny (model prog w) A (tryCompare (.ref x) (cmpInfo .NotEq).2.1 b) (fun r s' => ∃ v, r = some v ∧ Q v s') E s := by
    have made := own_ne (Q := fun v s' => ∃ r, v = .bool r ∧ Q v s') hu X I ob hs hf (wpAny_mono h (fun v s' hv => by
      obtain ⟨r, e, q⟩ := hv
      exact ⟨r, e, _, rfl, q⟩) fun _ _ e => e)
    unfold tryCompare
    refine wpAny_bind ?_
    simp only [callSpecialIfBound?, bindSpecialIfBound?, cmpInfo_NotEq]
    refine wpAny_holding (wpAny_bind (wpAny_bind (wpAny_bind (I.type.here ((looks_findIn X hne).here ?_)))))
    have last : ∀ G : Option Value → Shared → Prop, (∀ r s', Q (.bool r) s' → G (some (.bool r)) s') → wpAny (model prog w) A (call (.builtin "object.__ne__") ([.ref x] ++ [b]) >>= fun v => pure (some v)) G E s := fun G g => wpAny_bind (wpAny_mono made (fun v s' hv => by
      obtain ⟨r, rfl, q⟩ := hv
      exact wpAny_pure (g r s' q)) fun _ _ e => e)
    refine wpAny_bind (wpAny_askSetting (wpAny_ite ?_))
    split
    · rw [F.slot_enumerate_ne.bind]
      exact wpAny_bind (wpAny_pure (wpAny_pure (last _ fun r s' q => wpAny_pure ⟨_, rfl, q⟩)))
    · rw [F.slot_enumerate_ne.bind]
      exact wpAny_tryCatch (wpAny_bind (wpAny_pure (wpAny_pure (last _ fun r s' q => wpAny_pure ⟨_, rfl, q⟩))))
  unfold richCompare
  simp only [oneThing_ref]
  refine wpAny_holding (wpAny_bind (wpAny_cRoomFor (Nat.lt_of_succ_lt hu) ?_))
  refine wpAny_bind (I.type.here (wpAny_bind (hb.here ?_)))
  by_cases q : (Value.ref C != tb) = true
  · have no : subIn K tb (.ref C) = some false := by
      rcases Bool.or_eq_true_iff.mp hn with z | z
      · rw [beq_iff_eq.mp z] at q
        simp at q
      · exact beq_iff_eq.mp z
    rw [if_pos q]
    refine wpAny_bind ((looks_subIn X no).here ?_)
    simp only [Bool.false_eq_true, if_false]
    refine wpAny_bind (wpAny_mono told (fun r s' z => ?_) fun _ _ e => e)
    obtain ⟨v, rfl, hq⟩ := z
    exact wpAny_pure hq
  · rw [if_neg q]
    refine wpAny_bind (wpAny_pure ?_)
    simp only [Bool.false_eq_true, if_false]
    refine wpAny_bind (wpAny_mono told (fun r s' z => ?_) fun _ _ e => e)
    obtain ⟨v, rfl, hq⟩ := z
    exact wpAny_pure hq
end
end PySem.W
namespace GQ
open PySem PySem.SeqAt
open AutoSeq1 (wpAny_loadPart')
open MeetsSeq MeetsSeq2 MeetsSeq3 SeqRoads2
section
variable {prog : Program} {w : World} {A : Around} {R : Result → Shared → Prop}
theorem ne_loopL (l b : Addr) (N : Nat) (I : Nat → Shared → Prop) (both : ListI prog w A (fun e s' => R (.error e) s') l b N I) (fin : ∀ s, I N s → R (.ok (.ret (.bool false))) s) :
    ∀ (k i : Nat), N - i = k → i ≤ N → ∀ s, I i s → wpAny (model prog w) A.in1 (Builtin.«list.__eq__.loop» ⟨[.ref l, .ref b, rawInt i, rawInt 3], []⟩) (FinOf prog w A R) (fun e s' => R (.error e) s') s
  | 0, i, hk, hi, s, h => by
    obtain ⟨xs, ys, nx, ny, atl, atb, zx, zy, _⟩ := both _ _ h
    obtain rfl : i = N := by omega
    have told := fin s h
    obtain ⟨hp, g, d, tk, os⟩ := s
    wp_walk using wpAny_loadPart' atl, wpAny_loadPart' atb
    have nox : xs[((i : Nat) : Int).toNat]? = none := by simp; omega
    have noy : ys[((i : Nat) : Int).toNat]? = none := by simp; omega
    rw [nox, noy]
    wp_walk using wpAny_loadPart' atl, wpAny_loadPart' atb
    show R (.ok (.ret (.bool (xs.size != ys.size)))) _
    rw [zx, zy]
    simpa using told
  | k + 1, i, hk, hi, s, h => by
    obtain ⟨xs, ys, nx, ny, atl, atb, zx, zy, turn⟩ := both _ _ h
    have ix : i < xs.size := by omega
    have iy : i < ys.size := by omega
    have once := turn ix iy
    obtain ⟨hp, g, d, tk, os⟩ := s
    wp_walk using wpAny_loadPart' atl, wpAny_loadPart' atb
    have gx : xs[((i : Nat) : Int).toNat]? = some xs[i] := by simp [ix]
    have gy : ys[((i : Nat) : Int).toNat]? = some ys[i] := by simp [iy]
    rw [gx, gy]
    refine wpAny_bind (wpAny_mono once (fun r s2 q2 => ?_) fun _ _ x => x)
    obtain ⟨rfl, q2⟩ := q2
    have rest := ne_loopL l b N I both fin k (i + 1) (by omega) (by omega) s2 q2
    obtain ⟨hp2, g2, d2, tk2, os2⟩ := s2
    wp_walk
    rw [show ((i : Int) + 1) = ((i + 1 : Nat) : Int) by omega]
    exact ⟨plainId_quiet plain_eq_loop _, codeAny_builtin entry_eq_loop (by
      rw [Around.under_plainId plain_eq_loop _]
      exact rest)⟩
theorem list_neL (l b : Addr) (N : Nat) (I : Nat → Shared → Prop) (both : ListI prog w A (fun e s' => R (.error e) s') l b N I) (fin : ∀ s, I N s → R (.ok (.ret (.bool false))) s) {s : Shared} (h : I 0 s) :
    wpAny (model prog w) A.in1 (Builtin.«list.__ne__» ⟨[.ref l, .ref b], []⟩) (FinOf prog w A R) (fun e s' => R (.error e) s') s := by
  have ⟨xs, ys, nx, ny, atl, atb, zx, zy, _⟩ := both _ _ h
  have rest := ne_loopL (A := A) (R := R) l b N I both fin _ 0 rfl (Nat.zero_le _) s h
  obtain ⟨hp, g, d, tk, os⟩ := s
  have under := AutoSeq1.sub_list_list
  have alike : ¬ (xs.size != ys.size) = true := by simp [zx, zy]
  wp_walk using wpAny_loadPart' atl, wpAny_loadPart' atb
  exact ⟨plainId_quiet plain_eq_loop _, codeAny_builtin entry_eq_loop (by
    rw [Around.under_plainId plain_eq_loop _]
    exact rest)⟩
end
section
variable {prog : Program} {w : World} {A : Around} {E : Value → Shared → Prop} {s : Shared}
theorem rcNe_listL {l b : Addr} {N : Nat} {Q : Value → Shared → Prop} (hu : A.units < cLine) (I : Nat → Shared → Prop) (both : ListI prog w A E l b N I) (fin : ∀ s, I N s → Q (.bool false) s) (h : I 0 s) : wpAny (model prog w) A (richCompare .NotEq (.ref l) (.ref b)) Q E s := by
  have ⟨xs, ys, nx, ny, atl, atb, _, _, _⟩ := both _ _ h
  refine wpAny_richCompare_same_room (op := .NotEq) ⟨_, atl, rfl⟩ ⟨_, atb, rfl⟩ F.slot_list_ne (call_here F.slot_list_ne ⟨_, atl, rfl⟩ F.entry_list_ne (F.args_list_ne_2 _ _) ?_) hu
  exact list_neL (R := wants (fun v s' => v ≠ .notImplemented ∧ Q v s') E) l b N I both (fun s' q => ⟨(fun z => nomatch z), fin s' q⟩) h
end
end GQ
namespace L2
open PySem PySem.Spec PyProof.Rows
section
variable {X : Cx} {n : Nat} {D : Eqv}
/-- x != y of two that are alike -/
def rNeG (D : Eqv) : R2 := fun x y H Q => D x y H ∧ ∀ H', Ext H H' → Q (.bl false) H'
def RcNe (X : Cx) (n : Nat) (D : Eqv) : Prop := ∀ (A : Around) (pins : List (Addr × Obj)) (s : Shared) (σ : St) (H : Hp) (x y : V) (u v : Value), Sub X n A → Inv X pins σ H s → RelV x u → RelV y v → D x y H →
  wpAny (model X.prog X.w) A (richCompare .NotEq u v) (fun r s' => r = .bool false ∧ ∃ H', Inv X pins σ H' s' ∧ Ext H H') X.xe s
theorem op_neG (h : RcNe X n D) (hr : Room n X.A) : OpR X (compareOp .NotEq) (rNeG D) := by
  intro pins s σ H x y v u Q I rx ry hq
  obtain ⟨d, q⟩ := hq
  show wpAny (model X.prog X.w) X.A (richCompare .NotEq v u) (EP X pins σ Q) X.xe s
  refine wpAny_mono (h X.A pins s σ H x y v u ⟨hr, rfl⟩ I rx ry d) (fun r s' z => ?_) fun _ _ e => e
  obtain ⟨rfl, H', I', e⟩ := z
  exact ⟨.bl false, H', I', rfl, q H' e⟩
theorem rcNe_list (hD : Mon D) (h : EqG X n D) : RcNe X (n + 1) (DList D) := by
  intro A pins s σ H x y u v sb I rx ry d
  obtain ⟨a, b, xs, ys, rfl, rfl, ha, hb, p⟩ := d
  cases rx
  cases ry
  refine GQ.rcNe_listL (N := xs.length) sb.room.units0 (fun _ s' => LoopI X pins σ H s') (fun i s' q => ?_) (fun s' q => ⟨rfl, q⟩) ⟨H, I, Ext.rfl'⟩
  have ⟨H1, I1, e1⟩ := q
  obtain ⟨_, its, k, r, e⟩ := I1.hok a _ (e1 _ _ ha)
  obtain ⟨_, its2, k2, r2, e2⟩ := I1.hok b _ (e1 _ _ hb)
  have z1 : its.toArray.size = xs.length := by rw [List.size_toArray, ← r.length]
  have z2 : its2.toArray.size = xs.length := by rw [List.size_toArray, ← r2.length, ← p.1]
  exact ⟨_, _, k, k2, e, e2, z1, z2, fun h1 h2 => turnG hD h sb p r r2 i h1 h2 s' q⟩
/-- what the written part says of a class with an == and no != -/
structure NoNe (K : PySem.W.Frag) (C : Addr) : Prop where
  ne : PySem.W.findIn K (.ref C) "__ne__" = some (some (.builtin "object.__ne__"))
  ob : PySem.W.subIn K (.ref C) (.type "object") = some true
theorem rcNe_ins {C f : Addr} {fd : FuncData} {ps : List Str} {R : Addr → Addr → Hp → Prop} (N : NoNe X.K C) (F : FnOk X.prog X.w X.K X.mg X.base CX0 n f fd ps (spEq R))
    (hs : PySem.W.findIn X.K (.ref C) "__eq__" = some (some (.ref f))) (hf : PySem.W.isFn X.K (.ref f) = true) (hb : Binds X.K fd ps []) : RcNe X (n + 1) (DIns C R) := by
  intro A pins s σ H x y u v sb I rx ry d
  obtain ⟨a, b, dx, dy, fs, gs, rfl, rfl, ha, hb', hr⟩ := d
  cases rx
  cases ry
  obtain ⟨mA, J, _⟩ := ins_get I.hok ha
  obtain ⟨mB, J', _⟩ := ins_get I.hok hb'
  obtain ⟨od, J, _⟩ := J.look
  obtain ⟨od', J', _⟩ := J'.look
  have rm : Room n A.in1 := sb.room.in1
  have r2 : Vals [V.ref a, V.ref b] [Value.ref a, Value.ref b] := .cons rfl (.cons rfl .nil)
  refine PySem.W.ne_K (tb := .ref C) (by have := sb.room.units; omega) I.kIn J J'.type (by simp [PySem.W.notFirst]) N.ob N.ne hs hf (wpAny_mono (E1.run_own (vs := [.ref a, .ref b]) (Q := fun z H' => z = .bl true ∧ Ext H H') F rm (by rw [Around.in1_frames]; exact sb.fr) hb I r2 ⟨a, b, rfl, hr, fun H' e => ⟨rfl, e⟩⟩) (fun v s' hv => ?_) fun _ _ e => e)
  obtain ⟨z, H', I', rz, rfl, e⟩ := hv
  obtain rfl : v = .bool true := rz
  exact ⟨true, rfl, rfl, H', I', e⟩
end
end L2

namespace E1
open PySem PySem.Spec PyProof.Rows L2

def PartsX (H : Hp) (p : Addr) (n : NetP) : Prop := ∃ fa ra ha tl, H p = some (.tup (.ref fa :: .int n.en :: .ref ra :: .ref ha :: .int n.out :: tl)) ∧ TL7 H fa (n.fs.map FormP.vs) ∧ TL7 H ra (n.rows.map Row.vs) ∧ TL7 H ha (n.holds.map Hold.vs)
theorem PartsX.same {H H' : Hp} {p : Addr} {n : NetP} (h : PartsX H p n) (s : Same H H') : PartsX H' p n := by
  obtain ⟨fa, ra, ha, tl, h1, h2, h3, h4⟩ := h
  exact ⟨fa, ra, ha, tl, s _ _ h1, h2.same s, h3.same s, h4.same s⟩
/-! ### len by an own method -/
section
variable {X : Cx} {k : Nat} {C f : Addr} {fd : FuncData} {ps : List Str} {sp : Sp}
/-- what the written part says of an own method -/
structure OwnM (K : PySem.W.Frag) (C : Addr) (m : Str) (f : Addr) : Prop where
  find : PySem.W.findIn K (.ref C) m = some (some (.ref f))
  fn : PySem.W.isFn K (.ref f) = true
def rOwnL (C : Addr) (sp : Sp) : List V → Hp → VK → Prop := fun xs H Q => ∃ (a dx : Addr) (fs : List (Str × V)), xs = [.ref a] ∧ H a = some (.ins C dx fs) ∧ sp [.ref a] H (fun v H2 => ∃ y : Nat, v = .int y ∧ y ≤ 100000 ∧ Q (.int y) H2) E0
theorem call_lenO {j : Nat} (F : FnOk X.prog X.w X.K X.mg X.base CX0 k f fd ps sp) (hb : Binds X.K fd ps []) (M : OwnM X.K C "__len__" f) (hr : Room j X.A) (hle : k + 1 ≤ j := by decide) : CallR X (.builtin "len") (rOwnL C sp) := by
  intro pins s σ H xs us Q I r h
  obtain ⟨a, dx, fs, rfl, ha, q⟩ := h
  cases r with
  | cons ra rn =>
    cases rn
    cases ra
    obtain ⟨mA, J, _⟩ := ins_get I.hok ha
    obtain ⟨od, J, _⟩ := J.look
    obtain ⟨m, hF⟩ := I.fr
    have rm : Room k X.A.in1 := (hr.mono hle).in1
    refine PySem.W.len_K hF I.ok.mod.kin J M.find M.fn (wpAny_mono (run_own (vs := [.ref a]) F rm rfl hb I (.cons rfl .nil) q) (fun v s' hv => ?_) fun _ _ e => e)
    obtain ⟨x, H2, I2, rx, y, rfl, y1, q2⟩ := hv
    obtain ⟨t, rfl⟩ := rx
    exact ⟨⟨by omega, by omega⟩, .int y, H2, I2.tok _, ⟨_, rfl⟩, q2⟩
end

def spNetLen (C CN : Addr) : Sp := fun vs H Q _ => ∃ (p : Addr) (n : NetP), vs = [.ref p] ∧ NetAt C CN H p n ∧ Q (.int (n.rows.length : Nat)) H

theorem fat_one {C : Addr} {H : Hp} {p : Addr} {f : FormP} (h : FAt C H p f) : FsAt C H [.ref p] [f] := .cons h .nil
theorem make_same {G : Hp} {x dx C : Addr} (hx : G x = none) (hdx : G dx = none) (ne : dx ≠ x) : Same G (upd (upd G dx (.own x)) x (.ins C dx [])) :=
  (same_new hdx).trans (same_new (by rw [upd_ne ne.symm]; exact hx))
def spLMade2 (C CN : Addr) : Sp := fun vs H Q _ => ∃ (hp : Addr) (n : NetP), vs = [.ref hp] ∧ PartsX H hp n ∧ NetOk n ∧ ∀ p H', Same H H' → NetAt C CN H' p n → Q (.ref p) H'
/-- a thing that may be a place, and whether it is -/
def PlaceIs (K : PySem.W.Frag) (H : Hp) (x : V) (n : Nat) (b : Bool) : Prop := (∃ k : Int, x = .int k ∧ b = (decide (0 ≤ k) && decide (k < (n : Int)))) ∨ (b = false ∧ ∀ H', Same H H' → WholeIs K H' x false)
theorem PlaceIs.same {K : PySem.W.Frag} {H H' : Hp} {x : V} {n : Nat} {b : Bool} (h : PlaceIs K H x n b) (s : Same H H') : PlaceIs K H' x n b := by
  rcases h with h | ⟨e, h⟩
  · exact .inl h
  · exact .inr ⟨e, fun H2 s2 => h H2 (s.trans s2)⟩
def spPlace2 (K : PySem.W.Frag) : Sp := fun vs H Q _ => ∃ (x : V) (n : Nat) (b : Bool), vs = [x, .int n] ∧ PlaceIs K H x n b ∧ Q (.bl b) H
def spRowNo (K : PySem.W.Frag) (C CN : Addr) : Sp := fun vs H Q _ => ∃ (p : Addr) (n : NetP) (x : V) (b : Bool), vs = [.ref p, x] ∧ NetAt C CN H p n ∧ PlaceIs K H x n.rows.length b ∧ Q (.bl b) H
/-- whether a thing is the number of a keep row -/
def KeepIs (K : PySem.W.Frag) (H : Hp) (x : V) (n : NetP) (b : Bool) : Prop := (∃ k : Nat, x = .int k ∧ k < n.rows.length ∧ b = kpAt n.rows k) ∨ (PlaceIs K H x n.rows.length false ∧ b = false)
def spKeepNo (K : PySem.W.Frag) (C CN : Addr) : Sp := fun vs H Q _ => ∃ (p : Addr) (n : NetP) (x : V) (b : Bool), vs = [.ref p, x] ∧ NetAt C CN H p n ∧ KeepIs K H x n b ∧ ∀ H', Same H H' → Q (.bl b) H'
theorem kd_keep0 (k : Kd7) : decide (V.str k.s = V.str "keep") = k.isKp := by
  cases k <;> decide +kernel
theorem kd_keep {r : Row} : decide (V.str r.kd.s = V.str "keep") = r.kd.isKp := kd_keep0 r.kd
section
variable {P : Program} {w : World} {K : PySem.W.Frag} {mg : Str → Option Value} {base : Heap}
theorem sc__law_made : FnScope ["_law_net_here", "_law_forms", "_law_width", "_law_point_here", "_law_manner", "_law_ends"] ["_law_net_here"] (defScope s__law_made) := ⟨rfl, rfl, rfl, by decide +kernel, rfl, by decide +kernel, by decide +kernel⟩
theorem ok__law_made {f : Addr} {fd : FuncData} {C CN : Addr} (F : Fun K "_law_made" "_law_made" s__law_made f fd) (z : Zs mg) (c_Form_4 : CalC P w K mg base 3 "Form" C ["self", "width", "point", "manner", "ends"] [] (spInit C)) (c_Net_5 : CalC P w K mg base 6 "Net" CN ["self", "forms", "enters", "rows", "holds", "out"] [] (spNetInit C CN)) : FnOk P w K mg base CX0 8 f fd ["_law_net_here"] (spLMade2 C CN) := by
  refine F.ok sc__law_made (fun vs H Q E h => ?_) (fun cdv A outer s H vs Q E hr h => ?_)
  · obtain ⟨hp, n, rfl, _⟩ := h
    rfl
  · obtain ⟨hp, n, rfl, ⟨fa, ra, ha, tl0, hhp, ⟨fv, hfa, tf⟩, ⟨rv, hra, tr⟩, ⟨hv, hha, th⟩⟩, ok, q⟩ := h
    refine ⟨_, (pss_cons (ps_setLc (i := 1) (own := [("_law_width", 2), ("_law_point_here", 3), ("_law_manner", 4), ("_law_ends", 5)]) (g := gTup K 4 (gCons (gName 2) (gCons (gName 3) (gCons (gName 4) (gCons (gName 5) gNil))))) (tt := tYes) (te := tMake C (spInit C) [] E0 (tCons (tVar 2) (tCons (tVar 3) (tCons (tVar 4) (tCons (tVar 5) tNil))))) (by rfl) sc__law_made.nd rfl rfl (sw_true rfl rfl rfl (by decide +kernel)) (pi_list (pe_ix ix_tup (pv 0) pe_int (fun _ _ => rfl))) (blkOk_by (own := [("_law_width", 2), ("_law_point_here", 3), ("_law_manner", 4), ("_law_ends", 5)]) (N := ["_law_net_here", "_law_forms", "_law_width", "_law_point_here", "_law_manner", "_law_ends"]) (sc := defScope s__law_made) (by decide +kernel)) (fun _ _ _ _ _ => by exact (pg_tup (by rfl) (pgs_cons (pg_name (i := 2) sc__law_made.nd rfl (.inl rfl)) (pgs_cons (pg_name (i := 3) sc__law_made.nd rfl (.inl rfl)) (pgs_cons (pg_name (i := 4) sc__law_made.nd rfl (.inl rfl)) (pgs_cons (pg_name (i := 5) sc__law_made.nd rfl (.inl rfl)) pgs_nil)))))) (fun _ _ _ _ _ => by exact pts_nil) (fun _ _ _ _ _ => by exact (pe_calc c_Form_4 hr (pa_cons (pv 2) (pa_cons (pv 3) (pa_cons (pv 4) (pa_cons (pv 5) pa_nil)))))))
      (pss_one (ps_ret (pe_calc c_Net_5 hr (pa_cons (pv 1) (pa_cons (pe_ix ix_tup (pv 0) pe_int (fun _ _ => rfl)) (pa_cons (pe_callTy call_list_of (by rfl) z.list (by decide +kernel) (pa_cons (pe_ix ix_tup (pv 0) pe_int (fun _ _ => rfl)) pa_nil)) (pa_cons (pe_callTy call_list_of (by rfl) z.list (by decide +kernel) (pa_cons (pe_ix ix_tup (pv 0) pe_int (fun _ _ => rfl)) pa_nil)) (pa_cons (pe_ix ix_tup (pv 0) pe_int (fun _ _ => rfl)) pa_nil))))))))), ?_⟩
    have lf := tf.len
    rw [List.length_map] at lf
    have f12 := ok.f2
    refine ⟨_, rfl, hp, _, 0, .ref fa, rfl, rfl, SqT.of hhp, a0, fa, rfl, ⟨_, SqL.of hfa⟩, fun D hD => ?_⟩
    refine lc_it (walk_list (K := K) (a := fa) (xs := fv)) (fun i G => Same H G ∧ ∃ ws, G D = some (.lst ws) ∧ FsAt C G ws (n.fs.take i)) ⟨same_new hD, [], upd_same, .nil⟩ (fun i G _ hP => SqL.of (hP.1 _ _ hfa)) (fun i x G G' hi hP hY => ?_) (fun G hP => ?_)
    · obtain ⟨s1, ws, hd, fw⟩ := hP
      obtain ⟨rfl, hx⟩ := hY
      obtain ⟨p, xs, rfl, exs, hp'⟩ := tf.get hx
      rw [List.getElem?_map] at exs
      obtain ⟨f, ef, rfl⟩ := Option.map_eq_some_iff.mp exs
      have hp2 := s1 _ _ hp'
      have fo := ok.fo f (List.mem_of_getElem? ef)
      have lw := fw.len
      rw [List.length_take] at lw
      refine ⟨p, _, rfl, SqT.of hp2, rfl, _, _, rfl, _, _, rfl, _, _, rfl, _, _, rfl, rfl, rfl, _, rfl, _, rfl, _, rfl, _, rfl, fun x dx hx0 hdx ne => ?_⟩
      have sM := make_same (C := C) hx0 hdx ne
      refine ⟨x, dx, f.w, f.pt, f.m, f.st, rfl, fo.wo, fo.p0, fo.p1, upd_same, fun H2 hF fr1 fr2 => ⟨rfl, ?_⟩⟩
      have S2 : Same G' H2 := fun b o e => fr1 b o (ne_of_none e hx0) (sM _ _ e)
      have hd2 := S2 _ _ hd
      refine ⟨ws, hd2, sl_lt (by omega), fun b o e => ?_, _, upd_same, ?_⟩
      · rw [upd_ne (ne_of_none e hD)]
        exact S2 _ _ (s1 _ _ e)
      · rw [List.take_add_one, ef]
        exact ((fw.same S2).app (fat_one hF)).butL SameBut.upd hd2
    obtain ⟨s1, ws, hd, fw⟩ := hP
    rw [lf, List.take_length] at fw
    refine ⟨_, rfl, _, rfl, hp, _, 1, .int n.en, rfl, rfl, SqT.of (s1 _ _ hhp), a1, _, rfl, hp, _, 2, .ref ra, rfl, rfl, SqT.of (s1 _ _ hhp), a2, _, _, rfl, .inl (SqL.of (s1 _ _ hra)), fun r2 hr2 => ?_⟩
    generalize hG : upd _ r2 _ = G2
    obtain ⟨s2, h_r2⟩ := upd_gen hG hr2
    have S2 := s1.trans s2
    refine ⟨_, rfl, hp, _, 3, .ref ha, rfl, rfl, SqT.of (S2 _ _ hhp), atI_nat (j := 3) rfl, _, _, rfl, .inl (SqL.of (S2 _ _ hha)), fun h2 hh2 => ?_⟩
    generalize hG3 : upd _ h2 _ = G3
    obtain ⟨s3, h_h2⟩ := upd_gen hG3 hh2
    have S3 := S2.trans s3
    refine ⟨_, rfl, hp, _, 4, .int n.out, rfl, rfl, SqT.of (S3 _ _ hhp), atI_nat (j := 4) rfl, fun x dx hx0 hdx ne => ?_⟩
    have sM := make_same (C := CN) hx0 hdx ne
    have S4 := S3.trans sM
    refine ⟨x, dx, D, r2, h2, n, ws, rv, hv, rfl, upd_same, sM _ _ (s3 _ _ (s2 _ _ hd)), ((fw.same s2).same s3).same sM, sM _ _ (s3 _ _ h_r2), tr.same S4, sM _ _ h_h2, th.same S4, ok, fun H2 hN fr1 => ⟨rfl, q x H2 (fun b o e => fr1 b o (ne_of_none (S3 _ _ e) hx0) (S4 _ _ e)) hN⟩⟩
theorem sc_Net___len__ : FnScope ["self"] ["self"] (defScope s_Net___len__) := ⟨rfl, rfl, rfl, by decide +kernel, rfl, by decide +kernel, by decide +kernel⟩
theorem ok_Net___len__ {f : Addr} {fd : FuncData} {k : Nat} {C CN : Addr} (TN : NTxt K mg CN) (F : Fun K "__len__" "Net.__len__" s_Net___len__ f fd) (z : Zs mg) : FnOk P w K mg base CX0 (k + 1) f fd ["self"] (spNetLen C CN) := by
  refine F.ok sc_Net___len__ (fun vs H Q E h => ?_) (fun cdv A outer s H vs Q E hr h => ?_)
  · obtain ⟨p, n, rfl, _⟩ := h
    rfl
  · obtain ⟨p, n, rfl, ⟨ok, dx, fl, rl, hl2, pl, fv, rv, hv, b⟩, q⟩ := h
    refine ⟨_, (pss_one (ps_ret (pe_callB call_len_seq (by rfl) z.len PySem.boot_len (pa_cons (pe_fld (pv 0) rfl) pa_nil)))), ?_⟩
    have e := b.rs.len
    rw [List.length_map] at e
    refine ⟨_, rfl, p, CN, dx, _, _, rfl, b.ob, TN.cl, TN.n_row_list, nl_r, rl, _, rfl, .inl (SqL.of b.ra), ?_⟩
    rw [e]
    exact q
theorem ok_is_place2 {f : Addr} {fd : FuncData} (F : Fun K "is_place" "is_place" s_is_place f fd) (c_is_whole : Cal P w K mg base 1 "is_whole" ["thing"] (spWhole K)) : FnOk P w K mg base CX0 2 f fd ["thing", "many"] (spPlace2 K) := by
  refine F.ok sc_is_place (fun vs H Q E h => ?_) (fun cdv A outer s H vs Q E hr h => ?_)
  · obtain ⟨x, n, b, rfl, _⟩ := h
    rfl
  · obtain ⟨x, n, b, rfl, h, q⟩ := h
    refine ⟨_, (pss_one (ps_ret (pe_and (pe_cal c_is_whole hr (pa_cons (pv 0) pa_nil)) (pe_one (pe_chain op_le op_lt pe_int (pv 0) (pv 1)))))), ?_⟩
    rcases h with ⟨k, rfl, rfl⟩ | ⟨rfl, hw⟩
    · refine ⟨_, rfl, _, true, rfl, .inl ⟨k, rfl, rfl⟩, _, rfl, iteT ⟨_, rfl, _, _, rfl, rfl, _, rfl, ?_⟩⟩
      by_cases c : (0 : Int) ≤ k
      · rw [decide_eq_true c, Bool.true_and] at q
        exact iteC (d := true) (decide_eq_true c) (iteT ⟨_, rfl, _, _, rfl, rfl, q⟩)
      · rw [decide_eq_false c, Bool.false_and] at q
        exact iteC (d := false) (decide_eq_false c) (iteF q)
    · exact ⟨_, rfl, x, false, rfl, hw _ (.refl _), _, rfl, iteF q⟩
theorem sc_is_row_number : FnScope ["net", "thing"] ["net", "thing"] (defScope s_is_row_number) := ⟨rfl, rfl, rfl, by decide +kernel, rfl, by decide +kernel, by decide +kernel⟩
theorem ok_is_row_number {f : Addr} {fd : FuncData} {C CN : Addr} {fL : Addr} {fdL : FuncData} (FL : FnOk P w K mg base CX0 1 fL fdL ["self"] (spNetLen C CN)) (hbL : Binds K fdL ["self"] []) (ML : OwnM K CN "__len__" fL) (F : Fun K "is_row_number" "is_row_number" s_is_row_number f fd) (z : Zs mg) (c_is_place : Cal P w K mg base 2 "is_place" ["thing", "many"] (spPlace2 K)) : FnOk P w K mg base CX0 3 f fd ["net", "thing"] (spRowNo K C CN) := by
  refine F.ok sc_is_row_number (fun vs H Q E h => ?_) (fun cdv A outer s H vs Q E hr h => ?_)
  · obtain ⟨p, n, x, b, rfl, _⟩ := h
    rfl
  · obtain ⟨p, n, x, b, rfl, hn, hx, q⟩ := h
    refine ⟨_, (pss_one (ps_ret (pe_cal c_is_place hr (pa_cons (pv 1) (pa_cons (pe_callB (call_lenO FL hbL ML hr) (by rfl) z.len PySem.boot_len (pa_cons (pv 0) pa_nil)) pa_nil))))), ?_⟩
    obtain ⟨ok, dx, fl, rl, hl, pl, fv, rv, hv0, b2⟩ := id hn
    have r60 := ok.r2
    exact ⟨_, rfl, _, rfl, p, dx, _, rfl, b2.ob, p, n, rfl, hn, n.rows.length, rfl, by omega, x, n.rows.length, b, rfl, hx, q⟩
theorem sc_is_keep_number : FnScope ["net", "thing"] ["net", "thing"] (defScope s_is_keep_number) := ⟨rfl, rfl, rfl, by decide +kernel, rfl, by decide +kernel, by decide +kernel⟩
theorem ok_is_keep_number {f : Addr} {fd : FuncData} {C CN : Addr} (TN : NTxt K mg CN) (F : Fun K "is_keep_number" "is_keep_number" s_is_keep_number f fd) (n_rows : CalM P w K mg base 1 CN "rows" ["self"] (spRowsM C CN)) (c_is_row_number : Cal P w K mg base 3 "is_row_number" ["net", "thing"] (spRowNo K C CN)) : FnOk P w K mg base CX0 4 f fd ["net", "thing"] (spKeepNo K C CN) := by
  refine F.ok sc_is_keep_number (fun vs H Q E h => ?_) (fun cdv A outer s H vs Q E hr h => ?_)
  · obtain ⟨p, n, x, b, rfl, _⟩ := h
    rfl
  · obtain ⟨p, n, x, b, rfl, hn, hx, q⟩ := h
    refine ⟨_, (pss_one (ps_ret (pe_and (pe_cal c_is_row_number hr (pa_cons (pv 0) (pa_cons (pv 1) pa_nil))) (pe_one (pe_cmpR op_eq (pe_ix ix_tup (pe_ix ix_list (pe_calm0 (pv 0) TN.cl n_rows hr) (pv 1) (fun _ _ => rfl)) pe_int (fun _ _ => rfl)) pe_str (nomark _)))))), ?_⟩
    obtain ⟨ok, dx, fl, rl, hl, pl, fv, rv, hv0, b2⟩ := id hn
    rcases hx with ⟨k, rfl, kl, rfl⟩ | ⟨hx, rfl⟩
    · refine ⟨_, rfl, _, rfl, p, n, .int k, true, rfl, hn, .inl ⟨k, rfl, by rw [decide_eq_true (by omega), decide_eq_true (by omega)]; rfl⟩, _, rfl, iteT ?_⟩
      refine ⟨_, rfl, p, dx, _, rfl, b2.ob, nl_no (by decide +kernel), p, n, rfl, hn, fun rl2 rv2 H4 hr4 s4 h_rl2 hrr => ?_⟩
      have ek := List.getElem?_eq_getElem kl
      generalize n.rows[k] = r at ek
      obtain ⟨rp, erp, hrp⟩ := hrr.at (i := k) (xs := r.vs) (by rw [List.getElem?_map, ek]; rfl)
      refine ⟨_, rfl, rl2, _, _, .ref rp, rfl, rfl, SqL.of h_rl2, atI_nat erp, rp, _, 0, .str r.kd.s, rfl, rfl, SqT.of hrp, atI_nat (j := 0) r.vs0, rfl, ?_⟩
      rw [kp_of ek] at q
      rw [kd_keep]
      exact q _ s4
    · exact ⟨_, rfl, _, rfl, p, n, x, false, rfl, hn, hx, _, rfl, iteF (q _ (.refl _))⟩
end
end E1

namespace E1
open PySem PySem.Spec PyProof.Rows L2

def Parts6 (H : Hp) (p : Addr) (n : NetP) : Prop := ∃ fa ra ha pa, H p = some (.tup [.ref fa, .int n.en, .ref ra, .ref ha, .int n.out, .ref pa]) ∧ TL7 H fa (n.fs.map FormP.vs) ∧ TL7 H ra (n.rows.map Row.vs) ∧ TL7 H ha (n.holds.map Hold.vs) ∧ H pa = some (.lst (n.pts.map V.int))
theorem Parts6.same {H H' : Hp} {p : Addr} {n : NetP} (h : Parts6 H p n) (s : Same H H') : Parts6 H' p n := by
  obtain ⟨fa, ra, ha, pa, h1, h2, h3, h4, h5⟩ := h
  exact ⟨fa, ra, ha, pa, s _ _ h1, h2.same s, h3.same s, h4.same s, s _ _ h5⟩
def sp2Built : Sp := fun vs H Q _ => ∃ (a fl kl : Addr) (fs : List FormP) (en : Nat) (ks : List Nat) (most : Nat) (c : Int), vs = [.ref a, .ref fl, .int en, .ref kl, .int most] ∧ TL7 H fl (fs.map FormP.vs) ∧ H kl = some (.lst (ks.map nI)) ∧ FC fs en ks ∧ WellAt H a c ∧ fl ≠ a ∧ kl ≠ a ∧ 1 ≤ most ∧ most ≤ 20 ∧ 0 ≤ c ∧ c ≤ 1000 ∧
  ∀ (n : NetP) (p : Addr) (H' : Hp), NetOk n → n.fs = fs → (∀ h ∈ n.holds, h.s.natAbs < 2 ^ 110) → n.rows.length ≤ 40 → SameBut a H H' → H p = none → p ≠ a → Parts6 H' p n → Q (.ref p) H'
def sp2Net : Sp := fun vs H Q _ => ∃ (a wl : Addr) (ws : List (Option Int)) (most : Nat), vs = [.ref a, .ref wl, .int most] ∧ WellAt H a 0 ∧ H wl = some (.lst (ws.map wV)) ∧ 1 ≤ ws.length ∧ ws.length ≤ 100 ∧ (∀ w ∈ ws, WOk w) ∧ wl ≠ a ∧ 1 ≤ most ∧ most ≤ 20 ∧
  ∀ (n : NetP) (p : Addr) (H' : Hp), NetOk n → (∀ f ∈ n.fs, f.w ∈ ws) → n.fs.length ≤ 3 → (∀ h ∈ n.holds, h.s.natAbs < 2 ^ 110) → n.rows.length ≤ 40 → SameBut a H H' → H p = none → p ≠ a → Parts6 H' p n → Q (.ref p) H'
theorem beg_row {hc fc i : Nat} {r : Row} (h : BegOk hc r) : RowOk hc fc i r := by
  cases r with
  | inn => trivial
  | old k => exact h
  | _ => exact h.elim
theorem beg_pt {hc : Nat} {pts : List Int} {r : Row} (h : BegOk hc r) : PtB pts r := by
  cases r with
  | inn => trivial
  | old k => trivial
  | _ => exact h.elim
theorem ptsK_next {fs : List FormP} {en : Nat} {ks : List Nat} {rows : List Row} {i : Nat} {r : Row} (h : rows[i]? = some r) : ptsK fs en ks (rows.take (i + 1)) = ptsK fs en ks (rows.take i) ++ [rowPt (fpt fs en) (ks.map (fpt fs)) (fs.map (·.pt)) (ptsK fs en ks (rows.take i)) r] := by
  rw [List.take_add_one, h, Option.toList_some, ptsK_snoc]
theorem beg_bd {fs : List FormP} {en : Nat} {ks : List Nat} (fc : FC fs en ks) : ∀ (k : Nat) (rows : List Row), rows.length = k → (∀ r ∈ rows, BegOk ks.length r) → ∀ p ∈ ptsK fs en ks rows, -160 ≤ p ∧ p ≤ 160
  | 0, rows, h, _ => by
    rw [List.length_eq_zero_iff.mp h]
    exact fun p hp => nomatch hp
  | k + 1, rows, h, hb => by
    obtain ⟨a, r, rfl⟩ : ∃ a r, rows = a ++ [r] := by
      rcases List.eq_nil_or_concat rows with rfl | ⟨a, r, e⟩
      · cases h
      · exact ⟨a, r, by rw [e, List.concat_eq_append]⟩
    rw [List.length_append, List.length_singleton] at h
    have ih := beg_bd fc k a (by omega) fun x hx => hb x (List.mem_append_left _ hx)
    have hr := hb r (List.mem_append_right _ (List.mem_singleton_self _))
    intro p hp
    rw [ptsK_snoc] at hp
    rcases List.mem_append.mp hp with hp | hp
    · exact ih p hp
    · rw [List.mem_singleton.mp hp]
      exact row_bd fc ih (beg_row hr) (beg_pt hr)

theorem Parts6.x {H : Hp} {p : Addr} {n : NetP} (h : Parts6 H p n) : PartsX H p n := by
  obtain ⟨fa, ra, ha, pa, h1, h2, h3, h4, _⟩ := h
  exact ⟨fa, ra, ha, _, h1, h2, h3, h4⟩
theorem TsAt.set {H : Hp} {vs : List V} {xss : List (List V)} (h : TsAt H vs xss) {q : Addr} {ys : List V} (e : H q = some (.tup ys)) : ∀ i, TsAt H (vs.set i (.ref q)) (xss.set i ys) := by
  induction h with
  | nil => exact fun _ => .nil
  | cons e0 r ih =>
    intro i
    cases i with
    | zero => exact .cons e r
    | succ i => exact .cons e0 (ih i)
theorem ixN_last {n : Nat} (h : 0 < n) : ixN n (-1) = some (n - 1) := by
  unfold ixN
  rw [if_neg (by decide), if_pos (by omega)]
  rw [show ((-1 : Int) + (n : Int)).toNat = n - 1 by omega]
section
variable {P : Program} {w : World} {K : PySem.W.Frag} {mg : Str → Option Value} {base : Heap}
theorem sc__law_built_of : FnScope ["_law_well_here", "_law_forms", "_law_enters", "_law_held", "_law_most", "_law_rows", "_law_points", "_law_row", "_law_net_here", "_law_holds"] ["_law_well_here", "_law_forms", "_law_enters", "_law_held", "_law_most"] (defScope s__law_built_of) := ⟨rfl, rfl, rfl, by decide +kernel, rfl, by decide +kernel, by decide +kernel⟩
theorem ok__law_built_of {f : Addr} {fd : FuncData} (F : Fun K "_law_built_of" "_law_built_of" s__law_built_of f fd) (z : Zs mg) (c__law_draw : Cal P w K mg base 1 "_law_draw" ["_law_well_here", "_law_many"] spDraw) (c__law_point : Cal P w K mg base 1 "_law_point" ["_law_row", "_law_points", "_law_forms", "_law_enters", "_law_held"] sp2Point) (c__law_begun : Cal P w K mg base 3 "_law_begun" ["_law_well_here", "_law_held"] sp2Begun) (c__law_filled : Cal P w K mg base 4 "_law_filled" ["_law_well_here", "_law_net_here", "_law_many"] sp2Fill) (c__law_links : Cal P w K mg base 3 "_law_links" ["_law_well_here", "_law_net_here"] sp2Links) : FnOk P w K mg base CX0 5 f fd ["_law_well_here", "_law_forms", "_law_enters", "_law_held", "_law_most"] sp2Built := by
  refine F.ok sc__law_built_of (fun vs H Q E h => ?_) (fun cdv A outer s H vs Q E hr h => ?_)
  · obtain ⟨a, fl, kl, fs, en, ks, most, c, rfl, _⟩ := h
    rfl
  · obtain ⟨a, fl, kl, fs, en, ks, most, c, rfl, hfl0, hkl, fc, hw, nfa, nka, m1, m20, c0, c1, q⟩ := h
    refine ⟨_, (pss_cons (ps_set (i := 5) sc__law_built_of.nd rfl (.inl rfl) (pe_cal c__law_begun hr (pa_cons (pv 0) (pa_cons (pv 3) pa_nil))))
      (pss_cons (ps_set (i := 6) sc__law_built_of.nd rfl (.inl rfl) (pe_lst pa_nil))
      (pss_cons (ps_for PassesOwn.never rfl (pi_list (pv 5)) (pg_name (i := 7) sc__law_built_of.nd rfl (.inl rfl)) (pss_one (ps_expr (pe_bm PySem.F.plainAttrs_list PySem.F.slot_list_append PySem.F.type_list_append mt_append (pv 6) (pa_cons (pe_cal c__law_point hr (pa_cons (pv 7) (pa_cons (pv 6) (pa_cons (pv 1) (pa_cons (pv 2) (pa_cons (pv 3) pa_nil)))))) pa_nil)))))
      (pss_cons (ps_set (i := 8) sc__law_built_of.nd rfl (.inl rfl) (pe_tup (pa_cons (pv 1) (pa_cons (pv 2) (pa_cons (pv 5) (pa_cons (pv 3) (pa_cons (pv 6) pa_nil)))))))
      (pss_cons (ps_expr (pe_cal c__law_filled hr (pa_cons (pv 0) (pa_cons (pv 8) (pa_cons (pe_cal c__law_draw hr (pa_cons (pv 0) (pa_cons (pv 4) pa_nil))) pa_nil)))))
      (pss_cons (ps_set (i := 9) sc__law_built_of.nd rfl (.inl rfl) (pe_cal c__law_links hr (pa_cons (pv 0) (pa_cons (pv 8) pa_nil))))
      (pss_cons (ps_expr (pe_cal c__law_filled hr (pa_cons (pv 0) (pa_cons (pv 8) (pa_cons (pe_cal c__law_draw hr (pa_cons (pv 0) (pa_cons pe_int pa_nil))) pa_nil)))))
      (pss_one (ps_ret (pe_tup (pa_cons (pv 1) (pa_cons (pv 2) (pa_cons (pv 5) (pa_cons (pv 9) (pa_cons (pe_cal c__law_draw hr (pa_cons (pv 0) (pa_cons (pe_callB call_len_seq (by rfl) z.len PySem.boot_len (pa_cons (pv 5) pa_nil)) pa_nil))) (pa_cons (pv 6) pa_nil)))))))))))))))), ?_⟩
    obtain ⟨wxs, hwx⟩ := hw.lst
    obtain ⟨fv0, hfv0, tfv0⟩ := id hfl0
    have k5 := fc.k5
    refine ⟨_, rfl, _, rfl, a, kl, ks, c, rfl, hkl, k5, hw, nka, c0, by omega, fun rows ml H1 hbg l1 l8 sb1 w1 nma ml0 tml => ?_⟩
    have hkl1 := sb1 _ _ nka hkl
    have tfl1 := hfl0.but sb1 hwx nfa
    obtain ⟨mv, hmv, tmv⟩ := id tml
    have lmv := tmv.rlen
    refine ⟨(by show 0 ≤ sizeLine; decide), fun pl hpl0 => ?_⟩
    generalize hG0 : upd _ pl _ = G0
    obtain ⟨s0, h_pl⟩ := upd_gen hG0 hpl0
    have npa : pl ≠ a := w1.ne hpl0
    have nmp : ml ≠ pl := ne_of_none hmv hpl0
    have nkp : kl ≠ pl := ne_of_none hkl1 hpl0
    obtain ⟨fv1, hfv1, tfv1⟩ := id tfl1
    have nfp : fl ≠ pl := ne_of_none hfv1 hpl0
    have nkm : kl ≠ ml := ne_of_none hkl ml0
    have nfm : fl ≠ ml := ne_of_none hfv0 ml0
    have pl00 : H pl = none := same_free sb1 hwx hpl0 npa
    refine ⟨_, rfl, ml, rfl, ⟨_, SqL.of (s0 _ _ hmv)⟩, ?_⟩
    refine for_it (walk_list (K := K) (a := ml) (xs := mv)) (fun i σ G => ∃ y : Option V, σ = [some (.ref a), some (.ref fl), some (.int (en : Nat)), some (.ref kl), some (.int (most : Nat)), some (.ref ml), some (.ref pl), y, none, none] ∧ SameBut pl G0 G ∧ G pl = some (.lst ((ptsK fs en ks (rows.take i)).map V.int))) ⟨none, rfl, SameBut.refl _ _, h_pl⟩ (fun i σ G hi hP => ?_) (fun i v σ G G' hi hP hY => ?_) (fun σ G hP => ?_)
    · obtain ⟨y, rfl, B, _⟩ := hP
      exact SqL.of (B _ _ nmp (s0 _ _ hmv))
    · obtain ⟨y, rfl, B, hd⟩ := hP
      obtain ⟨rfl, hx⟩ := hY
      obtain ⟨rp, xs, rfl, ex, hrp⟩ := tmv.get hx
      rw [List.getElem?_map] at ex
      obtain ⟨r, er, rfl⟩ := Option.map_eq_some_iff.mp ex
      have il := (List.getElem?_eq_some_iff.mp er).1
      have hb := hbg r (List.mem_of_getElem? er)
      have lp : (ptsK fs en ks (rows.take i)).length = i := by
        rw [ptsK_len, List.length_take]
        omega
      refine ⟨_, rfl, .inl ⟨rfl, _, SqL.of hd⟩, _, rfl, _, rfl, _, rfl, _, rfl, _, rfl, rp, pl, fl, kl, r, _, fs, en, ks, rfl, B _ _ (ne_of (s0 _ _ hrp) h_pl (fun z => nomatch z)) (s0 _ _ hrp), hd, (tfl1.same s0).but B h_pl nfp, B _ _ nkp (s0 _ _ hkl1), fc.en, fc.ko, beg_row hb, ?_⟩
      refine ⟨pl, _, _, rfl, rfl, hd, sl_lt (by rw [List.length_map, lp]; omega), _, rfl, B.trans SameBut.upd, ?_⟩
      rw [upd_same, ptsK_next er, List.map_append]
      rfl
    obtain ⟨y, rfl, B, hd⟩ := hP
    rw [lmv, List.take_length] at hd
    have w2 := (w1.same s0).but B npa.symm
    have b : FB G a fl kl ml pl fs en ks rows (c + 30) := ⟨w2, (tfl1.same s0).but B h_pl nfp, B _ _ nkp (s0 _ _ hkl1), (tml.same s0).but B h_pl nmp, hd, nka, nfa, nma, npa, nkm, nfm, nkp, nfp, nmp, fun i r e => beg_row (hbg r (List.mem_of_getElem? e)), beg_bd fc _ rows rfl hbg, l1⟩
    have BB : SameBut a H G := fun x o n e => B x o (ne_of_none e pl00) (s0 _ _ (sb1 _ _ n e))
    clear hd w2 B hG0 s0 h_pl tfl1 tml hmv tmv lmv hfv1 tfv1 hkl1 w1
    refine ⟨_, rfl, _, rfl, _, rfl, _, rfl, _, rfl, (by show 5 ≤ sizeLine; decide), fun np hnp => ?_⟩
    generalize hG1 : upd _ np _ = G1
    obtain ⟨s1, h_np⟩ := upd_gen hG1 hnp
    have b1 := b.new s1
    refine ⟨_, rfl, _, rfl, _, rfl, _, rfl, a, _, (most : Int), rfl, b1.w, by omega, by omega, Nat.lt_of_le_of_lt (show _ ≤ 1000 by omega) (by decide +kernel), fun r2 H2 r20 r21 d2 e2 w2 => ?_⟩
    obtain ⟨m2, rfl⟩ : ∃ m : Nat, r2 = m := ⟨r2.toNat, by omega⟩
    have nnp := b.w.ne hnp
    have h_np2 := d2 _ _ nnp h_np
    refine ⟨a, np, fl, kl, ml, pl, fs, en, ks, rows, m2, _, rfl, h_np2, fc, b1.one d2 w2, by omega, by omega, by omega, by omega, fun ex3 H3 lx3 B3a b3 => ?_⟩
    have nmn : np ≠ ml := by
      obtain ⟨x, e, _⟩ := b1.m
      exact ne_of h_np e (fun z => nomatch z)
    have npn : np ≠ pl := ne_of h_np b1.p (fun z => nomatch z)
    have h_np3 := B3a _ _ nnp nmn npn h_np2
    have lr3 : (rows ++ ex3).length = rows.length + m2 := by rw [List.length_append, lx3]
    refine ⟨_, rfl, _, rfl, a, np, fl, kl, ml, pl, fs, en, ks, rows ++ ex3, _, rfl, h_np3, fc, b3, by omega, by omega, by omega, fun ex4 hs ll H4 lx4 hke hho B4 b4 ll0 nla nlm nlp tll => ?_⟩
    have h_np4 := B4 _ _ nnp nmn npn h_np3
    have lr4 : (rows ++ ex3 ++ ex4).length ≤ rows.length + m2 + 5 := by rw [List.length_append]; omega
    refine ⟨_, rfl, _, rfl, _, rfl, a, _, 3, rfl, b4.w, by omega, by decide, by decide +kernel, fun r5 H5 r50 r51 d5 e5 w5 => ?_⟩
    obtain ⟨m5, rfl⟩ : ∃ m : Nat, r5 = m := ⟨r5.toNat, by omega⟩
    have b5 := b4.one d5 w5
    refine ⟨a, np, fl, kl, ml, pl, fs, en, ks, rows ++ ex3 ++ ex4, m5, _, rfl, d5 _ _ nnp h_np4, fc, b5, by omega, by omega, by omega, by omega, fun ex6 H6 lx6 B6 b6 => ?_⟩
    have lr6 : (rows ++ ex3 ++ ex4 ++ ex6).length ≤ rows.length + m2 + 5 + 2 := by rw [List.length_append]; omega
    obtain ⟨gx4, hgx4⟩ := b4.w.lst
    obtain ⟨gx5, hgx5⟩ := b5.w.lst
    obtain ⟨gm5, hgm5, _⟩ := id b5.m
    have tll6 := (tll.but d5 hgx4 nla).three B6 hgx5 hgm5 b5.p nla nlm nlp
    obtain ⟨mv6, hmv6, tmv6⟩ := id b6.m
    have lmv6 := tmv6.rlen
    refine ⟨_, rfl, _, rfl, _, rfl, _, rfl, _, rfl, _, rfl, ml, _, rfl, .inl (SqL.of hmv6), a, _, (mv6.length : Int), rfl, b6.w, by omega, by have := b6.l1; omega, Nat.lt_of_le_of_lt (show _ ≤ 1000 by omega) (by decide +kernel), fun r7 H7 r70 r71 d7 e7 w7 => ⟨_, rfl, (by show 6 ≤ sizeLine; decide), fun p hp => ?_⟩⟩
    obtain ⟨out, rfl⟩ : ∃ m : Nat, r7 = m := ⟨r7.toNat, by omega⟩
    generalize hGp : upd _ p _ = G8
    obtain ⟨s8, h_p⟩ := upd_gen hGp hp
    have b8 := (b6.one d7 w7).new s8
    obtain ⟨gx6, hgx6⟩ := b6.w.lst
    have tll8 := (tll6.but d7 hgx6 nla).same s8
    have npp : p ≠ a := w7.ne hp
    have ALL : SameBut a H G8 := fun x o n e => by
      have n1 := ne_of_none e ml0
      have n2 := ne_of_none e pl00
      exact s8 _ _ (d7 _ _ n (B6 _ _ n n1 n2 (d5 _ _ n (B4 _ _ n n1 n2 (B3a _ _ n n1 n2 (d2 _ _ n (s1 _ _ (BB _ _ n e))))))))
    have lhs : hs.length = ks.length := by
      have := congrArg List.length hke
      rw [List.length_map] at this
      exact this
    have hpe : hpts ⟨fs, en, rows ++ ex3 ++ ex4 ++ ex6, hs, out⟩ = ks.map (fpt fs) := by
      unfold hpts
      rw [← hke, List.map_map]
      rfl
    have pe : NetP.pts ⟨fs, en, rows ++ ex3 ++ ex4 ++ ex6, hs, out⟩ = ptsK fs en ks (rows ++ ex3 ++ ex4 ++ ex6) := by
      unfold NetP.pts
      rw [hpe]
      rfl
    have p0 : H p = none := by
      cases e : H p with
      | none => rfl
      | some o =>
        have n1 := ne_of_none e ml0
        have n2 := ne_of_none e pl00
        have := d7 _ _ npp (B6 _ _ npp n1 n2 (d5 _ _ npp (B4 _ _ npp n1 n2 (B3a _ _ npp n1 n2 (d2 _ _ npp (s1 _ _ (BB _ _ npp e)))))))
        rw [hp] at this
        cases this
    refine q ⟨fs, en, rows ++ ex3 ++ ex4 ++ ex6, hs, out⟩ p G8 ⟨fc.f1, fc.f2, fc.fo, fc.en, by show hs.length ≤ 6; omega, fun h hh => ?_, b8.l1, by show (rows ++ ex3 ++ ex4 ++ ex6).length ≤ 60; omega, ?_, ?_, by show out < (rows ++ ex3 ++ ex4 ++ ex6).length; omega⟩ rfl (fun h hh => (hho h hh).2.2.1) (by show (rows ++ ex3 ++ ex4 ++ ex6).length ≤ 40; omega) ALL p0 npp ⟨fl, ml, ll, pl, h_p, b8.f, b8.m, tll8, by rw [pe]; exact b8.p⟩
    · obtain ⟨h1, h2, _, x, hx⟩ := (hho h hh).more (t := ex6)
      exact ⟨h1, fun f ef => by rw [← frm_at ef]; exact h2, x, hx⟩
    · intro i r e
      show RowOk hs.length fs.length i r
      rw [lhs]
      exact b8.ok i r e
    · intro p hp
      rw [pe] at hp
      have := b8.pb p hp
      omega
theorem sc__law_net : FnScope ["_law_well_here", "_law_widths", "_law_most", "_law_forms", "_law_enters", "_law_held", "_law_k"] ["_law_well_here", "_law_widths", "_law_most"] (defScope s__law_net) := ⟨rfl, rfl, rfl, by decide +kernel, rfl, by decide +kernel, by decide +kernel⟩
theorem ok__law_net {f : Addr} {fd : FuncData} (F : Fun K "_law_net" "_law_net" s__law_net f fd) (z : Zs mg) (c__law_draw : Cal P w K mg base 1 "_law_draw" ["_law_well_here", "_law_many"] spDraw) (c__law_form : Cal P w K mg base 2 "_law_form" ["_law_well_here", "_law_widths"] sp2Form) (c__law_built_of : Cal P w K mg base 5 "_law_built_of" ["_law_well_here", "_law_forms", "_law_enters", "_law_held", "_law_most"] sp2Built) : FnOk P w K mg base CX0 6 f fd ["_law_well_here", "_law_widths", "_law_most"] sp2Net := by
  refine F.ok sc__law_net (fun vs H Q E h => ?_) (fun cdv A outer s H vs Q E hr h => ?_)
  · obtain ⟨a, wl, ws, most, rfl, _⟩ := h
    rfl
  · obtain ⟨a, wl, ws, most, rfl, hw, hwl, l1, l2, wok, nwa, m1, m20, q⟩ := h
    refine ⟨_, (pss_cons (ps_set (i := 3) sc__law_net.nd rfl (.inr rfl) (pe_lc (own := [("_law_k", 6)]) (g := gName 6) (tt := tYes) (te := (tCall sp2Form [] E0 (tCons (tVar 0) (tCons (tVar 1) tNil)))) (by rfl) sc__law_net.nd (pi_range1 (by rfl) z.range (pa_cons (pe_op op_add pe_int (pe_cal c__law_draw hr (pa_cons (pv 0) (pa_cons pe_int pa_nil)))) pa_nil)) (blkOk_by (own := [("_law_k", 6)]) (N := ["_law_well_here", "_law_widths", "_law_most", "_law_forms", "_law_enters", "_law_held", "_law_k"]) (sc := defScope s__law_net) (by decide +kernel)) (fun _ _ _ _ _ => by exact (pg_name (i := 6) sc__law_net.nd rfl (.inl rfl))) (fun _ _ _ _ _ => by exact pts_nil) (fun _ _ _ _ _ => by exact (pe_cal c__law_form hr (pa_cons (pv 0) (pa_cons (pv 1) pa_nil))))))
      (C8.pss_cut (ps_if (pt_cmpR op_eq (pe_cal c__law_draw hr (pa_cons (pv 0) (pa_cons pe_int pa_nil))) pe_int (nomark _)) (pss_one (ps_asg (pe_ix ix_list (pv 3) pe_int (fun _ _ => rfl)) (pg_sub (pv 3) (pe_un un_neg pe_int) set_list))) pss_nil)
      (pss_cons (ps_set (i := 4) sc__law_net.nd rfl (.inl rfl) (pe_cal c__law_draw hr (pa_cons (pv 0) (pa_cons (pe_callB call_len_seq (by rfl) z.len PySem.boot_len (pa_cons (pv 3) pa_nil)) pa_nil))))
      (pss_cons (ps_setLc (i := 5) (own := [("_law_k", 6)]) (g := gName 6) (tt := tYes) (te := (tCall spDraw [] E0 (tCons (tVar 0) (tCons (tCB (fun xs H Q => ∃ p ys, xs = [V.ref p] ∧ (SqL K H p ys ∨ SqT K H p ys) ∧ Q (.int ys.length) H) (tCons (tVar 3) tNil)) tNil)))) (by rfl) sc__law_net.nd rfl rfl (sw_true rfl rfl rfl (by decide +kernel)) (pi_range1 (by rfl) z.range (pa_cons (pe_cal c__law_draw hr (pa_cons (pv 0) (pa_cons pe_int pa_nil))) pa_nil)) (blkOk_by (own := [("_law_k", 6)]) (N := ["_law_well_here", "_law_widths", "_law_most", "_law_forms", "_law_enters", "_law_held", "_law_k"]) (sc := defScope s__law_net) (by decide +kernel)) (fun _ _ _ _ _ => by exact (pg_name (i := 6) sc__law_net.nd rfl (.inl rfl))) (fun _ _ _ _ _ => by exact pts_nil) (fun _ _ _ _ _ => by exact (pe_cal c__law_draw hr (pa_cons (pv 0) (pa_cons (pe_callB call_len_seq (by rfl) z.len PySem.boot_len (pa_cons (pv 3) pa_nil)) pa_nil)))))
      (pss_one (ps_ret (pe_cal c__law_built_of hr (pa_cons (pv 0) (pa_cons (pv 3) (pa_cons (pv 4) (pa_cons (pv 5) (pa_cons (pv 2) pa_nil)))))))))))), ?_⟩
    obtain ⟨wxs, hwx⟩ := hw.lst
    refine ⟨_, rfl, a, 0, 3, rfl, hw, by omega, by decide, by decide +kernel, fun r1 H1 r10 r11 d1 e1 w1 => ⟨_, _, rfl, rfl, (1 + r1).toNat, by rw [Int.toNat_of_nonneg (by omega)], by omega, by omega, fun fl hfl => ?_⟩⟩
    have nfl : fl ≠ a := w1.ne hfl
    have ffl : H fl = none := same_free d1 hwx hfl nfl
    refine lc_it walk_range (fun i G => SameBut a H G ∧ WellAt G a (5 + 7 * i) ∧ ∃ (fv : List V) (fs : List FormP), G fl = some (.lst fv) ∧ TsAt G fv (fs.map FormP.vs) ∧ fs.length = i ∧ ∀ f ∈ fs, f.Ok ∧ f.w ∈ ws ∧ -4 ≤ f.pt ∧ f.pt ≤ 5) ⟨d1.trans (.of (same_new hfl)), (w1.same (same_new hfl)).mono (by omega), [], [], upd_same, .nil, rfl, fun n x => nomatch x⟩ (fun _ _ _ _ => trivial) (fun i x G2 G' hi hP hY => ?_) (fun G2 hP => ?_)
    · obtain ⟨sb, wl2, fv, fs, hf, tf, lf, hfo⟩ := hP
      obtain ⟨rfl, rfl⟩ := hY
      obtain ⟨gx, hgx⟩ := wl2.lst
      have ltf := tf.len
      rw [List.length_map] at ltf
      refine ⟨rfl, _, rfl, _, rfl, a, wl, ws, 5 + 7 * i, rfl, sb _ _ nwa hwl, l1, l2, wok, wl2, nwa, by omega, by omega, fun f p G3 fok fw p0 p1 s2 w2 np hpn hp2 => ?_⟩
      have hf2 := s2 _ _ nfl hf
      refine ⟨_, hf2, sl_lt (by omega), fun b o n e => ?_, (w2.but SameBut.upd nfl.symm).mono (by omega), fv ++ [.ref p], fs ++ [f], upd_same, ?_, by rw [List.length_append, lf]; rfl, fun x hx => ?_⟩
      · rw [upd_ne (ne_of_none e ffl)]
        exact s2 _ _ n (sb _ _ n e)
      · rw [List.map_append]
        exact TsAt.push hf2 (tf.but s2 hgx) hp2
      · rcases List.mem_append.mp hx with hx | hx
        · exact hfo x hx
        · rw [List.mem_singleton.mp hx]
          exact ⟨fok, fw, p0, p1⟩
    obtain ⟨sb, wl2, fv, fs, hf, tf, lf, hfo⟩ := hP
    have lfv := tf.len
    rw [List.length_map] at lfv
    have f1 : 1 ≤ fs.length := by omega
    have f3 : fs.length ≤ 3 := by omega
    clear lf
    refine ⟨fun σ G => σ = [some (.ref a), some (.ref wl), some (.int (most : Nat)), some (.ref fl), none, none, none] ∧ SameBut a H G ∧ WellAt G a 50 ∧ ∃ (fv : List V) (fs : List FormP), G fl = some (.lst fv) ∧ TsAt G fv (fs.map FormP.vs) ∧ 1 ≤ fs.length ∧ fs.length ≤ 3 ∧ ∀ f ∈ fs, f.Ok ∧ f.w ∈ ws ∧ -4 ≤ f.pt ∧ f.pt ≤ 5, ?_, fun σ G hM => ?_⟩
    · obtain ⟨gx, hgx⟩ := wl2.lst
      refine ⟨_, rfl, a, 5 + 7 * ((1 + r1).toNat : Nat), 4, rfl, wl2, by omega, by decide, by decide +kernel, fun r2 H2 r20 r21 d2 e2 w2 => ⟨rfl, _, rfl, ite2 (fun _ => ?_) (fun _ => ?_)⟩⟩
      · have hf2 := d2 _ _ nfl hf
        have tf2 := tf.but d2 hgx
        have e0 := List.getElem?_eq_getElem (show 0 < fs.length by omega)
        obtain ⟨p, ep, hp⟩ := tf2.at (i := 0) (xs := (fs[0]).vs) (by rw [List.getElem?_map, e0]; rfl)
        refine ⟨_, rfl, fl, _, 0, .ref p, rfl, rfl, SqL.of hf2, atI_nat (j := 0) ep, _, rfl, _, rfl, fl, _, _, fv.length - 1, rfl, rfl, hf2, ixN_last (by omega), rfl, fun b o n e => ?_, (w2.but SameBut.upd nfl.symm).mono (by omega), _, fs.set (fv.length - 1) fs[0], upd_same, ?_, by rw [List.length_set]; exact f1, by rw [List.length_set]; exact f3, fun x hx => ?_⟩
        · rw [upd_ne (ne_of_none e ffl)]
          exact d2 _ _ n (sb _ _ n e)
        · rw [List.map_set]
          exact (tf2.set hp _).but SameBut.upd hf2
        · rcases List.mem_or_eq_of_mem_set hx with hx | hx
          · exact hfo x hx
          · rw [hx]
            exact hfo _ (List.getElem_mem _)
      · exact ⟨rfl, sb.trans d2, w2.mono (by omega), fv, fs, d2 _ _ nfl hf, tf.but d2 hgx, f1, f3, hfo⟩
    clear hf tf hfo lfv f1 f3 sb wl2
    obtain ⟨rfl, sb, wl2, fv, fs, hf, tf, f1, f3, hfo⟩ := hM
    have lfv := tf.len
    rw [List.length_map] at lfv
    refine ⟨_, rfl, _, rfl, fl, _, rfl, .inl (SqL.of hf), a, _, (fv.length : Int), rfl, wl2, by omega, by omega, Nat.lt_of_le_of_lt (show _ ≤ 1000 by omega) (by decide +kernel), fun r2 H2 r20 r21 d2 e2 w2 => ?_⟩
    obtain ⟨en, rfl⟩ : ∃ m : Nat, r2 = m := ⟨r2.toNat, by omega⟩
    obtain ⟨gx2, hgx2⟩ := wl2.lst
    have hf2 := d2 _ _ nfl hf
    have tf2 := tf.but d2 hgx2
    refine ⟨_, rfl, a, 50 + 1, 4, rfl, w2, by omega, by decide, by decide +kernel, fun r3 H3 r30 r31 d3 e3 w3 => ⟨r3.toNat, by rw [Int.toNat_of_nonneg r30], by omega, by omega, fun kl hkl => ?_⟩⟩
    have D3 : SameBut a H H3 := sb.trans (d2.trans d3)
    have nkl : kl ≠ a := w3.ne hkl
    have fkl : H kl = none := same_free D3 hwx hkl nkl
    obtain ⟨gx3, hgx3⟩ := w2.lst
    have hf3 := d3 _ _ nfl hf2
    have nfk : fl ≠ kl := ne_of_none hf3 hkl
    refine lc_it walk_range (fun i G => SameBut a H G ∧ WellAt G a (60 + 2 * i) ∧ TL7 G fl (fs.map FormP.vs) ∧ ∃ ks : List Nat, G kl = some (.lst (ks.map nI)) ∧ ks.length = i ∧ ∀ k ∈ ks, k < fs.length) ⟨D3.trans (.of (same_new hkl)), (w3.same (same_new hkl)).mono (by omega), ⟨fv, same_new hkl _ _ hf3, (tf2.but d3 hgx3).same (same_new hkl)⟩, [], upd_same, rfl, fun n x => nomatch x⟩ (fun _ _ _ _ => trivial) (fun i x G G' hi hP hY => ?_) (fun G hP => ?_)
    · obtain ⟨sb4, wl4, tl4, ks, hk, lk, hks⟩ := hP
      obtain ⟨rfl, rfl⟩ := hY
      obtain ⟨fv4, hfv4, tfv4⟩ := id tl4
      have lf4 := tfv4.len
      rw [List.length_map] at lf4
      obtain ⟨gx4, hgx4⟩ := wl4.lst
      refine ⟨rfl, _, rfl, _, rfl, fl, _, rfl, .inl (SqL.of hfv4), a, 60 + 2 * i, (fv4.length : Int), rfl, wl4, by omega, by omega, Nat.lt_of_le_of_lt (show _ ≤ 1000 by omega) (by decide +kernel), fun r5 H5 r50 r51 d5 e5 w5 => ⟨_, d5 _ _ nkl hk, sl_lt (by rw [List.length_map]; omega), fun b o n e => ?_, (w5.but SameBut.upd nkl.symm).mono (by omega), (tl4.but d5 hgx4 nfl).but SameBut.upd (d5 _ _ nkl hk) nfk, ks ++ [r5.toNat], ?_, by rw [List.length_append, lk]; rfl, fun k hk2 => ?_⟩⟩
      · rw [upd_ne (ne_of_none e fkl)]
        exact d5 _ _ n (sb4 _ _ n e)
      · rw [upd_same, List.map_append]
        show some (HO.lst (ks.map nI ++ [V.int r5])) = some (.lst (ks.map nI ++ [V.int ((r5.toNat : Nat) : Int)]))
        rw [Int.toNat_of_nonneg r50]
      · rcases List.mem_append.mp hk2 with hk2 | hk2
        · exact hks k hk2
        · rw [List.mem_singleton.mp hk2]
          omega
    obtain ⟨sb4, wl4, tl4, ks, hk, lk, hks⟩ := hP
    refine ⟨_, rfl, _, rfl, _, rfl, _, rfl, _, rfl, a, fl, kl, fs, en, ks, most, _, rfl, tl4, hk, ⟨by omega, by omega, by omega, by omega, hks, fun f hf => (hfo f hf).1, fun f hf => (hfo f hf).2.2⟩, wl4, nfl, nkl, m1, m20, by omega, by omega, fun n p G' nok hfs hst h40 sb6 p0 np hpp => ?_⟩
    exact q n p G' nok (fun f hf => (hfo f (by rw [← hfs]; exact hf)).2.1) (by rw [hfs]; exact f3) hst h40 (sb4.trans sb6) (same_free sb4 hwx p0 np) np hpp
end
end E1

namespace E1
open PySem PySem.Spec PyProof.Rows L2

open PySem.ErrX (kP kA)
/-- what a raised BadNet holds -/
def BnAt (H : Hp) (d : Addr) (part : Str) (at' : V) : Prop := H d = some (.xd [(kP, .str part), (kA, at')])
def spLen4X (CB : Addr) : Sp := fun vs H Q E => ∃ (a : Addr) (xs : List V) (z : Str) (lo hi : Int), vs = [.ref a, .str z, .int lo, .int hi] ∧ H a = some (.lst xs) ∧ lo ≤ xs.length ∧ z.length ≤ 1000 ∧ ((xs.length : Int) ≤ hi → Q .non H) ∧ (hi < (xs.length : Int) → ∀ d, H d = none → E (.ref CB) (some d) (upd H d (.xd [(kP, .str z), (kA, .non)])))
def spCkFormsX (C CB : Addr) : Sp := fun vs H Q E => ∃ (a : Addr) (fv : List V) (fs : List FormP), vs = [.ref a] ∧ H a = some (.lst fv) ∧ FsAt C H fv fs ∧ 1 ≤ fs.length ∧ (fs.length ≤ 12 → ∀ H', Same H H' → Q .non H') ∧ (12 < fs.length → ∀ d H', Same H H' → H d = none → BnAt H' d "forms" .non → E (.ref CB) (some d) H')
def spNetInitX (C CN CB : Addr) : Sp := fun vs H Q E => ∃ (p dx fl rl hl : Addr) (n : NetP) (fv rv hv : List V), vs = [.ref p, .ref fl, .int n.en, .ref rl, .ref hl, .int n.out] ∧ H p = some (.ins CN dx []) ∧ H fl = some (.lst fv) ∧ FsAt C H fv n.fs ∧ H rl = some (.lst rv) ∧ TsAt H rv (n.rows.map Row.vs) ∧ H hl = some (.lst hv) ∧ TsAt H hv (n.holds.map Hold.vs) ∧ (n.fs.length ≤ 12 → NetOk n) ∧ 1 ≤ n.fs.length ∧
  (n.fs.length ≤ 12 → ∀ H', NetAt C CN H' p n → (∀ b o, b ≠ p → H b = some o → H' b = some o) → Q .non H') ∧ (12 < n.fs.length → ∀ d H', Same H H' → H d = none → BnAt H' d "forms" .non → E (.ref CB) (some d) H')
section
variable {X : Cx} {k j : Nat} {C : Addr} {x : Str} {ps : List Str} {dvs : List V} {sp : Sp} {e : Expr} {es : List Expr} {t : TA} {p pos : Pos} {E : XK}
def CalCX (P : Program) (w : World) (K : PySem.W.Frag) (mg : Str → Option Value) (base : Heap) (k : Nat) (x : Str) (C : Addr) (ps : List Str) (dvs : List V) (sp : Sp) : Prop :=
  ∃ (f : Addr) (fd : FuncData) (ds : List Value), Mk K C f ∧ mg x = some (.ref C) ∧ Vals dvs ds ∧ Binds K fd ps ds ∧ FnOk P w K mg base (L2.CX P w) k f fd ps sp
theorem pe_calcX (h : CalCX X.prog X.w X.K X.mg X.base k x C ps dvs sp) (hr : Room j X.A) (tk : Takes X (fun cls d _ H => E cls d H)) (ha : PA X (e :: es) t) (hle : k + 1 ≤ j := by decide) (hg : Gl X x := by rfl)
    (hdb : (x == ("__debug__" : Str)) = false := by decide) (he : starEach (e :: es) X.env = (false, eval e X.env) :: starEach es X.env := by rfl) (hpl : (backTo pos (starEach es X.env)).any (·.1) = false := by rfl) :
    PE X (.Call (.Name x p) (e :: es) [] pos) (tMake C sp dvs E t) := by
  obtain ⟨f, fd, ds, h1, h2, h3, h4, h5⟩ := h
  exact pe_make h1 h5 (hr.mono hle) hg h2 h4 h3 (passes_call tk (fun _ _ _ _ h => h)) ha hdb he hpl
end
section
variable {P : Program} {w : World} {K : PySem.W.Frag} {mg : Str → Option Value} {base : Heap}
theorem ok_check_lengthX {f : Addr} {fd : FuncData} {CB fB : Addr} (EB : PySem.ErrX.ErrC K mg "BadNet" CB) (IB : PySem.ErrX.IniOk2 P w K mg CB fB) (F : Fun K "check_length" "check_length" s_check_length f fd) (z : Zs mg) : FnOk P w K mg base (L2.CX P w) 3 f fd ["thing", "part", "least", "most"] (spLen4X CB) := by
  refine F.okX sc_check_length (fun vs H Q E h => ?_) (fun cdv A outer s H vs Q E hr h => ?_)
  · obtain ⟨a, xs, zz, lo, hi, rfl, _⟩ := h
    rfl
  · obtain ⟨a, xs, zz, lo, hi, rfl, ha, l0, zl, q, qe⟩ := h
    refine ⟨_, (pss_one (ps_if (PW.pt (pw_or (pt_not (pt_val (pe_callB call_isi (by rfl) z.isinstance (by decide +kernel) (pa_cons (pv 0) (pa_cons (pe_bltn (v := .ty "list") (by rfl) z.list (by decide +kernel) rfl) pa_nil))))) (pw_or1 (pt_not (pt_chain op_le op_le (pv 2) (pe_callB call_len_seq (by rfl) z.len PySem.boot_len (pa_cons (pv 0) pa_nil)) (pv 3)))))) (pss_one (ps_raiseErr2 rfl EB IB hr (takes_of rfl rfl rfl rfl) (by exact (pa_cons (pv 1) (pa_cons pe_non pa_nil))))) pss_nil)), ?_⟩
    refine ⟨_, rfl, _, .ty "list", _, _, true, rfl, .ty _, .base (.lst ha), kit_ty (by decide +kernel), _, rfl, iteF ⟨_, rfl, _, rfl, a, _, rfl, .inl (SqL.of ha), _, _, rfl, rfl, _, rfl, ?_⟩⟩
    refine iteC (d := true) (decide_eq_true l0) (iteT ⟨_, rfl, _, _, rfl, rfl, _, rfl, ?_⟩)
    by_cases c : (xs.length : Int) ≤ hi
    · exact iteC (d := false) (by rw [decide_eq_true c]; rfl) (iteF (q c))
    · exact iteC (d := true) (by rw [decide_eq_false c]; rfl) (iteT ⟨_, rfl, _, _, rfl, .inl (.inl ⟨_, rfl, zl⟩), .inr rfl, fun d hd => qe (by omega) d hd⟩)
theorem ok_check_formsX {f : Addr} {fd : FuncData} {C CB : Addr} (T : FTxt K mg C) (IC : IsC K mg C) (NC : NCst mg) (F : Fun K "check_forms" "check_forms" s_check_forms f fd) (z : Zs mg) (c_check_length : CalX P w K mg base 3 "check_length" ["thing", "part", "least", "most"] [] (spLen4X CB)) : FnOk P w K mg base (L2.CX P w) 4 f fd ["forms"] (spCkFormsX C CB) := by
  refine F.okX sc_check_forms (fun vs H Q E h => ?_) (fun cdv A outer s H vs Q E hr h => ?_)
  · obtain ⟨a, fv, fs, rfl, _⟩ := h
    rfl
  · obtain ⟨a, fv, fs, rfl, ha, hf, l0, q, qe⟩ := h
    refine ⟨_, (pss_cons (ps_expr (pe_calxS c_check_length hr (takes_of rfl rfl rfl rfl) (pa_cons (pv 0) (pa_cons pe_str (pa_cons pe_int (pa_cons (pe_glob (v := .int 12) (by rfl) NC.mf.choose_spec ⟨_, rfl⟩) pa_nil))))))
      (pss_one (ps_for (passes_of rfl) rfl (pi_enum (by rfl) z.enumerate (pa_cons (pv 0) pa_nil)) (pg_tup (by rfl) (pgs_cons (pg_name (i := 1) sc_check_forms.nd rfl (.inl rfl)) (pgs_cons (pg_name (i := 2) sc_check_forms.nd rfl (.inl rfl)) pgs_nil))) (pss_one (ps_if (pt_not (pt_val (pe_callB call_isi (by rfl) z.isinstance (by decide +kernel) (pa_cons (pv 2) (pa_cons (pe_glob (v := .ref C) (by rfl) IC.gC rfl) pa_nil))))) (pss_one ps_never) pss_nil))))), ?_⟩
    have ll := hf.len
    refine ⟨_, rfl, a, fv, "forms", 1, 12, rfl, ha, by omega, (by decide +kernel), fun l1 => ?_, fun l1 d hd => qe (by omega) d _ (same_new hd) hd upd_same⟩
    refine ⟨_, rfl, a, _, rfl, SqL.of ha, for_it (walk_enum (K := K) (a := a) (xs := fv)) (fun i σ H' => ∃ y3 y4 : Option V, σ = [some (.ref a), y3, y4] ∧ Same H H') ⟨none, none, rfl, Same.refl _⟩ (fun i σ H' _ hP => ?_) (fun i v σ H1 H2 hi hP hY => ?_) (fun σ H' hP => ?_)⟩
    · obtain ⟨y3, y4, rfl, s1⟩ := hP
      exact SqL.of (s1 _ _ ha)
    · obtain ⟨y3, y4, rfl, s1⟩ := hP
      obtain ⟨Tp, u, v', rfl, nT, rfl, e1, e2⟩ := hY
      cases e1
      obtain ⟨p, f, rfl, _, hp⟩ := hf.get e2
      have s2 := s1.trans (same_new (o := .tup [.int (i : Nat), .ref p]) nT)
      obtain ⟨dx, ho⟩ := (FormAt.same hp s2).ob
      refine ⟨Tp, _, rfl, SqT.of upd_same, rfl, _, _, rfl, _, _, rfl, rfl, ?_⟩
      exact ⟨_, rfl, _, .ref C, .ref C, .ref C, true, rfl, .own C, .base (.ins ho T.cl IC.ha IC.hn IC.ht IC.hm), IC.kC, _, rfl, iteF ⟨_, _, rfl, s2⟩⟩
    · obtain ⟨y3, y4, rfl, s1⟩ := hP
      exact q (by omega) _ s1
theorem ok_Net___init__X {f : Addr} {fd : FuncData} {C CN CB : Addr} (T : FTxt K mg C) (TN : NTxt K mg CN) (F : Fun K "__init__" "Net.__init__" s_Net___init__ f fd) (z : Zs mg) (c_check_forms : CalX P w K mg base 4 "check_forms" ["forms"] [] (spCkFormsX C CB)) (c_is_place : Cal P w K mg base 2 "is_place" ["thing", "many"] spPlace) (c_check_holds : Cal P w K mg base 4 "check_holds" ["holds", "forms"] (spCkHolds C)) (c_checked_points : Cal P w K mg base 5 "checked_points" ["rows", "given"] spCkPts) (c_check_links : Cal P w K mg base 3 "check_links" ["holds", "rows"] spCkLinks) : FnOk P w K mg base (L2.CX P w) 6 f fd ["self", "forms", "enters", "rows", "holds", "out"] (spNetInitX C CN CB) := by
  refine F.okX sc_Net___init__ (fun vs H Q E h => ?_) (fun cdv A outer s H vs Q E hr h => ?_)
  · obtain ⟨p, dx, fl, rl, hl, n, fv, rv, hv, rfl, _⟩ := h
    rfl
  · obtain ⟨p, dx, fl, rl, hl, n, fv, rv, hv, rfl, hp, hf, hfs, hra, hrs, hha, hhs, okq, f1, qq, qe⟩ := h
    refine ⟨_, (pss_cons (ps_expr (pe_calxS c_check_forms hr (takes_of rfl rfl rfl rfl) (pa_cons (pv 1) pa_nil)))
      (pss_cons (ps_if (pt_not (pt_val (pe_cal c_is_place hr (pa_cons (pv 2) (pa_cons (pe_callB call_len_seq (by rfl) z.len PySem.boot_len (pa_cons (pv 1) pa_nil)) pa_nil))))) (pss_one ps_never) pss_nil)
      (pss_cons (ps_expr (pe_cal c_check_holds hr (pa_cons (pv 4) (pa_cons (pv 1) pa_nil))))
      (pss_cons (ps_set (i := 6) sc_Net___init__.nd rfl (.inr rfl) (pe_lc (own := [("form", 9)]) (g := gName 9) (tt := tYes) (te := tFld K (tVar 9) "point") (by rfl) sc_Net___init__.nd (pi_list (pv 1)) (blkOk_by (own := [("form", 9)]) (N := ["self", "forms", "enters", "rows", "holds", "out", "form_points", "hold_points", "points", "form", "hold"]) (sc := defScope s_Net___init__) (by decide +kernel)) (fun _ _ _ _ _ => by exact (pg_name (i := 9) sc_Net___init__.nd rfl (.inl rfl))) (fun _ _ _ _ _ => by exact pts_nil) (fun _ _ _ _ _ => by exact (pe_fld (pv 9) rfl))))
      (pss_cons (ps_setLc (i := 7) (own := [("hold", 10)]) (g := gName 10) (tt := tYes) (te := (tOp (rIxL K) (tVar 6) (tOp (rIxT K) (tVar 10) (tC (.int 0))))) (by rfl) sc_Net___init__.nd rfl rfl (sw_true rfl rfl rfl (by decide +kernel)) (pi_list (pv 4)) (blkOk_by (own := [("hold", 10)]) (N := ["self", "forms", "enters", "rows", "holds", "out", "form_points", "hold_points", "points", "form", "hold"]) (sc := defScope s_Net___init__) (by decide +kernel)) (fun _ _ _ _ _ => by exact (pg_name (i := 10) sc_Net___init__.nd rfl (.inl rfl))) (fun _ _ _ _ _ => by exact pts_nil) (fun _ _ _ _ _ => by exact (pe_ix ix_list (pv 6) (pe_ix ix_tup (pv 10) pe_int (fun _ _ => rfl)) (fun _ _ => rfl))))
      (pss_cons (ps_set (i := 8) sc_Net___init__.nd rfl (.inl rfl) (pe_cal c_checked_points hr (pa_cons (pv 3) (pa_cons (pe_tup (pa_cons (pe_ix ix_list (pv 6) (pv 2) (fun _ _ => rfl)) (pa_cons (pv 7) (pa_cons (pv 6) pa_nil)))) pa_nil))))
      (pss_cons (ps_expr (pe_cal c_check_links hr (pa_cons (pv 4) (pa_cons (pv 3) pa_nil))))
      (pss_cons (ps_if (pt_not (pt_val (pe_cal c_is_place hr (pa_cons (pv 5) (pa_cons (pe_callB call_len_seq (by rfl) z.len PySem.boot_len (pa_cons (pv 3) pa_nil)) pa_nil))))) (pss_one ps_never) pss_nil)
      (pss_cons (ps_fld (pv 0) (pe_callTy call_list_of (by rfl) z.list (by decide +kernel) (pa_cons (pv 1) pa_nil)) rfl)
      (pss_cons (ps_fld (pv 0) (pv 2) rfl)
      (pss_cons (ps_fld (pv 0) (pe_callTy call_list_of (by rfl) z.list (by decide +kernel) (pa_cons (pv 3) pa_nil)) rfl)
      (pss_cons (ps_fld (pv 0) (pe_callTy call_list_of (by rfl) z.list (by decide +kernel) (pa_cons (pv 4) pa_nil)) rfl)
      (pss_cons (ps_fld (pv 0) (pv 5) rfl)
      (pss_one (ps_fld (pv 0) (pv 8) rfl))))))))))))))), ?_⟩
    have lf := hfs.len
    have lr := hrs.len
    have lh := hhs.len
    rw [List.length_map] at lr lh
    refine ⟨_, rfl, fl, fv, n.fs, rfl, hf, hfs, f1, fun h12 H1 s1 => ?_, fun h12 d H1 s1 hd0 hd => qe h12 d H1 s1 hd0 hd⟩
    have ok := okq h12
    have q := qq h12
    have en0 := ok.en
    have out0 := ok.out
    refine ⟨_, rfl, _, rfl, fl, _, rfl, .inl (SqL.of (s1 _ _ hf)), _, _, rfl, by omega, by omega, _, rfl, iteF ?_⟩
    refine ⟨_, rfl, _, rfl, hl, fl, hv, fv, n.fs, n.holds, rfl, s1 _ _ hha, hhs.same s1, s1 _ _ hf, hfs.same s1, ok.h2, fun h hm => ⟨(ok.ho h hm).1, (ok.ho h hm).2.1⟩, fun H2 s2 => ?_⟩
    have S2 := s1.trans s2
    refine ⟨_, rfl, fl, rfl, ⟨_, SqL.of (S2 _ _ hf)⟩, fun Da hD => ?_⟩
    refine lc_it (walk_list (K := K) (a := fl) (xs := fv)) (fun i H4 => Same H2 H4 ∧ H4 Da = some (.lst (((n.fs.take i).map (·.pt)).map V.int))) ⟨same_new hD, upd_same⟩ (fun i H4 hi hP => SqL.of (hP.1 _ _ (S2 _ _ hf))) (fun i x' H4 H5 hi hP hy => ?_) (fun H3 hP => ?_)
    · obtain ⟨s4, hD4⟩ := hP
      obtain ⟨rfl, hx⟩ := hy
      obtain ⟨fa, fm, rfl, efm, hfa⟩ := hfs.get hx
      obtain ⟨dxf, hof⟩ := (FormAt.same hfa (S2.trans s4)).ob
      refine ⟨rfl, _, rfl, fa, C, dxf, _, _, rfl, hof, T.cl, T.nP, fl_p, _, hD4, ?_, fun b' o' e' => ?_, ?_⟩
      · rw [List.length_map, List.length_map, List.length_take]
        exact sl_lt (by have := ok.f2; omega)
      · rw [upd_ne (ne_of_none e' hD)]
        exact s4 _ _ e'
      · rw [upd_same, List.take_add_one, efm, List.map_append, List.map_append]
        rfl
    obtain ⟨s3, hDa⟩ := hP
    rw [lf, List.take_length] at hDa
    have S3 := S2.trans s3
    have lfp : (n.fs.map (·.pt)).length = n.fs.length := List.length_map ..
    refine ⟨_, rfl, hl, rfl, ⟨_, SqL.of (S3 _ _ hha)⟩, fun Db hDb => ?_⟩
    refine lc_it (walk_list (K := K) (a := hl) (xs := hv)) (fun i H4 => Same H3 H4 ∧ H4 Db = some (.lst (((n.holds.take i).map fun h => fpt n.fs h.k).map V.int))) ⟨same_new hDb, upd_same⟩ (fun i H4 hi hP => SqL.of (hP.1 _ _ (S3 _ _ hha))) (fun i x' H4 H5 hi hP hy => ?_) (fun H4 hP => ?_)
    · obtain ⟨s4, hD4⟩ := hP
      obtain ⟨rfl, hx⟩ := hy
      obtain ⟨ha, xs, rfl, exs, hha'⟩ := hhs.get hx
      rw [List.getElem?_map] at exs
      obtain ⟨hh, eh, rfl⟩ := Option.map_eq_some_iff.mp exs
      have kl := (ok.ho hh (List.mem_of_getElem? eh)).1
      refine ⟨rfl, _, rfl, _, rfl, ha, _, 0, .int hh.k, rfl, rfl, SqT.of ((S3.trans s4) _ _ hha'), a0, Da, _, _, _, rfl, rfl, SqL.of (s4 _ _ hDa), ints_at (by omega), _, hD4, ?_, fun b' o' e' => ?_, ?_⟩
      · rw [List.length_map, List.length_map, List.length_take]
        exact sl_lt (by have := ok.h2; omega)
      · rw [upd_ne (ne_of_none e' hDb)]
        exact s4 _ _ e'
      · rw [upd_same, List.take_add_one, eh, List.map_append, List.map_append]
        rfl
    obtain ⟨s4, hDb'⟩ := hP
    rw [lh, List.take_length] at hDb'
    have S4 := S3.trans s4
    refine ⟨_, rfl, _, rfl, _, rfl, Da, _, _, _, rfl, rfl, SqL.of (s4 _ _ hDa), ints_at (by omega), _, rfl, _, rfl, (by show 3 ≤ sizeLine; decide), fun gv hgv => ?_⟩
    generalize hG : upd _ gv _ = G5
    obtain ⟨s5, h_gv⟩ := upd_gen hG hgv
    have S5 := S4.trans s5
    have lhp : (hpts n).length = n.holds.length := List.length_map ..
    refine ⟨rl, gv, rv, n.rows, fpt n.fs n.en, hpts n, n.fs.map FormP.pt, rfl, S5 _ _ hra, hrs.same S5, ⟨Db, Da, h_gv, s5 _ _ hDb', s5 _ _ (s4 _ _ hDa)⟩, ok.r1, ok.r2, fun i r e => by rw [lhp, lfp]; exact ok.ro i r e, ok.po, fun pl H6 s6 hpl h_pl => ?_⟩
    have S6 := S5.trans s6
    refine ⟨_, rfl, _, rfl, hl, rl, hv, rv, n.holds, n.rows, rfl, S6 _ _ hha, hhs.same S6, S6 _ _ hra, hrs.same S6, fun h hm => (ok.ho h hm).2.2, fun H7 s7 => ?_⟩
    have S7 := S6.trans s7
    replace h_pl := s7 _ _ h_pl
    refine ⟨_, rfl, _, rfl, rl, _, rfl, .inl (SqL.of (S7 _ _ hra)), _, _, rfl, by omega, by omega, _, rfl, iteF ?_⟩
    have hp0 := hp
    have n_pl : pl ≠ p := (ne_of_none (S5 _ _ hp) hpl).symm
    have nfl : fl ≠ p := ne_of hf hp (fun z => nomatch z)
    have nrl : rl ≠ p := ne_of hra hp (fun z => nomatch z)
    have nhl : hl ≠ p := ne_of hha hp (fun z => nomatch z)
    have B : SameBut p H H7 := .of S7
    replace hp := S7 _ _ hp
    clear s1 s2 s3 s4 s5 s6 s7 S2 S3 S4 S5 S6 S7 hDa hDb' h_gv hG hpl hD hDb hgv
    refine ⟨_, rfl, fl, _, rfl, .inl (SqL.of (B _ _ nfl hf)), fun f2 hf2 => ?_⟩
    have n_f2 : f2 ≠ p := (ne_of_none hp hf2).symm
    generalize hG : upd _ f2 _ = K1
    obtain ⟨s, h_f2⟩ := upd_gen hG hf2
    replace B := B.trans (.of s)
    replace hp := s _ _ hp
    replace h_pl := s _ _ h_pl
    clear hG s
    refine ⟨_, rfl, p, CN, dx, _, rfl, hp, TN.cl, TN.n_form_list, (by show 0 < 1000; decide), ?_⟩
    generalize hG : upd _ p _ = K2
    obtain ⟨s, hp'⟩ := upd_but hG
    replace B := B.trans s
    clear hp
    have hp := hp'
    clear hp'
    rw [nf0] at hp
    replace h_pl := s _ _ n_pl h_pl
    replace h_f2 := s _ _ n_f2 h_f2
    clear hG s
    refine ⟨_, rfl, _, rfl, p, CN, dx, _, rfl, hp, TN.cl, TN.n_enters_at, (by show 1 < 1000; decide), ?_⟩
    generalize hG : upd _ p _ = K3
    obtain ⟨s, hp'⟩ := upd_but hG
    replace B := B.trans s
    clear hp
    have hp := hp'
    clear hp'
    rw [nf1] at hp
    replace h_pl := s _ _ n_pl h_pl
    replace h_f2 := s _ _ n_f2 h_f2
    clear hG s
    refine ⟨_, rfl, rl, _, rfl, .inl (SqL.of (B _ _ nrl hra)), fun r2 hr2 => ?_⟩
    have n_r2 : r2 ≠ p := (ne_of_none hp hr2).symm
    generalize hG : upd _ r2 _ = K4
    obtain ⟨s, h_r2⟩ := upd_gen hG hr2
    replace B := B.trans (.of s)
    replace hp := s _ _ hp
    replace h_pl := s _ _ h_pl
    replace h_f2 := s _ _ h_f2
    clear hG s
    refine ⟨_, rfl, p, CN, dx, _, rfl, hp, TN.cl, TN.n_row_list, (by show 2 < 1000; decide), ?_⟩
    generalize hG : upd _ p _ = K5
    obtain ⟨s, hp'⟩ := upd_but hG
    replace B := B.trans s
    clear hp
    have hp := hp'
    clear hp'
    rw [nf2] at hp
    replace h_pl := s _ _ n_pl h_pl
    replace h_f2 := s _ _ n_f2 h_f2
    replace h_r2 := s _ _ n_r2 h_r2
    clear hG s
    refine ⟨_, rfl, hl, _, rfl, .inl (SqL.of (B _ _ nhl hha)), fun h2 hh2 => ?_⟩
    have n_h2 : h2 ≠ p := (ne_of_none hp hh2).symm
    generalize hG : upd _ h2 _ = K6
    obtain ⟨s, h_h2⟩ := upd_gen hG hh2
    replace B := B.trans (.of s)
    replace hp := s _ _ hp
    replace h_pl := s _ _ h_pl
    replace h_f2 := s _ _ h_f2
    replace h_r2 := s _ _ h_r2
    clear hG s
    refine ⟨_, rfl, p, CN, dx, _, rfl, hp, TN.cl, TN.n_hold_list, (by show 3 < 1000; decide), ?_⟩
    generalize hG : upd _ p _ = K7
    obtain ⟨s, hp'⟩ := upd_but hG
    replace B := B.trans s
    clear hp
    have hp := hp'
    clear hp'
    rw [nf3] at hp
    replace h_pl := s _ _ n_pl h_pl
    replace h_f2 := s _ _ n_f2 h_f2
    replace h_r2 := s _ _ n_r2 h_r2
    replace h_h2 := s _ _ n_h2 h_h2
    clear hG s
    refine ⟨_, rfl, _, rfl, p, CN, dx, _, rfl, hp, TN.cl, TN.n_out_at, (by show 4 < 1000; decide), ?_⟩
    generalize hG : upd _ p _ = K8
    obtain ⟨s, hp'⟩ := upd_but hG
    replace B := B.trans s
    clear hp
    have hp := hp'
    clear hp'
    rw [nf4] at hp
    replace h_pl := s _ _ n_pl h_pl
    replace h_f2 := s _ _ n_f2 h_f2
    replace h_r2 := s _ _ n_r2 h_r2
    replace h_h2 := s _ _ n_h2 h_h2
    clear hG s
    refine ⟨_, rfl, _, rfl, p, CN, dx, _, rfl, hp, TN.cl, TN.n_point_list, (by show 5 < 1000; decide), ?_⟩
    generalize hG : upd _ p _ = K9
    obtain ⟨s, hp'⟩ := upd_but hG
    replace B := B.trans s
    clear hp
    have hp := hp'
    clear hp'
    rw [nf5] at hp
    replace h_pl := s _ _ n_pl h_pl
    replace h_f2 := s _ _ n_f2 h_f2
    replace h_r2 := s _ _ n_r2 h_r2
    replace h_h2 := s _ _ n_h2 h_h2
    clear hG s
    exact q _ ⟨ok, dx, f2, r2, h2, pl, fv, rv, hv, hp, h_f2, FsAt.butI hfs B hp0, h_r2, hrs.mono (fun a xs e => B _ _ (ne_of e hp0 (fun z => nomatch z)) e), h_h2, hhs.mono (fun a xs e => B _ _ (ne_of e hp0 (fun z => nomatch z)) e), h_pl⟩ (fun b o nb e => B b o nb e)
end
end E1

namespace E1
open PySem PySem.Spec PyProof.Rows L2
/-- what a run tells, and the state behind -/
def runF (n : NetP) (st : List Int) (xs : List Int) : List Int × List Int := xs.foldl (fun p x => (p.1 ++ [(n.nums x p.2).getD n.out 0], n.behind (n.nums x p.2))) ([], st)
theorem runF_next {n : NetP} {st xs : List Int} {i : Nat} {x : Int} (h : xs[i]? = some x) : runF n st (xs.take (i + 1)) = ((runF n st (xs.take i)).1 ++ [(n.nums x (runF n st (xs.take i)).2).getD n.out 0], n.behind (n.nums x (runF n st (xs.take i)).2)) := by
  unfold runF
  rw [List.take_add_one, h, Option.toList_some, List.foldl_append]
  rfl
theorem run_facts {n : NetP} {st xs : List Int} (hl : st.length = n.holds.length) : ∀ i, i ≤ xs.length → (runF n st (xs.take i)).1.length = i ∧ (runF n st (xs.take i)).2.length = n.holds.length := by
  intro i
  induction i with
  | zero => exact fun _ => ⟨rfl, hl⟩
  | succ i ih =>
    intro hi
    obtain ⟨x, ex⟩ : ∃ x, xs[i]? = some x := ⟨_, List.getElem?_eq_getElem (by omega)⟩
    rw [runF_next ex]
    refine ⟨?_, ?_⟩
    · rw [List.length_append, (ih (by omega)).1]
      rfl
    · show (n.behind _).length = _
      unfold NetP.behind
      rw [List.length_map]
def RunOk (n : NetP) (st xs : List Int) : Prop := xs.length ≤ 300 ∧ ∀ i x, xs[i]? = some x → NumOk n x (runF n st (xs.take i)).2
def starts (n : NetP) : List Int := n.holds.map (·.s)
def spStartM (C CN : Addr) : Sp := fun vs H Q _ => ∃ (p : Addr) (n : NetP), vs = [.ref p] ∧ NetAt C CN H p n ∧ ∀ t H', H t = none → Same H H' → H' t = some (.tup ((starts n).map V.int)) → Q (.ref t) H'
def spOutM (C CN : Addr) : Sp := fun vs H Q _ => ∃ (p : Addr) (n : NetP), vs = [.ref p] ∧ NetAt C CN H p n ∧ Q (.int n.out) H
def spFirst (C CN : Addr) : Sp := fun vs H Q _ => ∃ (p : Addr) (n : NetP) (v : V) (st : List Int), vs = [.ref p, v] ∧ NetAt C CN H p n ∧ ((v = .non ∧ st = starts n) ∨ ∃ sa, v = .ref sa ∧ H sa = some (.tup (st.map V.int)) ∧ StOk n st) ∧ ∀ t H', Same H H' → H' t = some (.tup (st.map V.int)) → Q (.ref t) H'
def spCkRun (C CN : Addr) : Sp := fun vs H Q _ => ∃ (p wl : Addr) (n : NetP) (xs : List Int), vs = [.ref p, .ref wl] ∧ NetAt C CN H p n ∧ H wl = some (.lst (xs.map V.int)) ∧ (∀ x ∈ xs, inR (frm n.fs n.en).w x = true) ∧ ∀ H', Same H H' → Q .non H'
def spRun (C CN : Addr) : Sp := fun vs H Q _ => ∃ (p wl : Addr) (n : NetP) (xs : List Int) (v : V) (st : List Int), vs = [.ref p, .ref wl, v] ∧ NetAt C CN H p n ∧ H wl = some (.lst (xs.map V.int)) ∧ (∀ x ∈ xs, inR (frm n.fs n.en).w x = true) ∧ ((v = .non ∧ st = starts n) ∨ ∃ sa, v = .ref sa ∧ H sa = some (.tup (st.map V.int)) ∧ StOk n st) ∧ st.length = n.holds.length ∧ RunOk n st xs ∧
  ∀ l H', H l = none → Same H H' → H' l = some (.lst ((runF n st xs).1.map V.int)) → Q (.ref l) H'
section
variable {P : Program} {w : World} {K : PySem.W.Frag} {mg : Str → Option Value} {base : Heap}
theorem sc_Net_start : FnScope ["self", "hold"] ["self"] (defScope s_Net_start) := ⟨rfl, rfl, rfl, by decide +kernel, rfl, by decide +kernel, by decide +kernel⟩
theorem ok_Net_start {f : Addr} {fd : FuncData} {k : Nat} {C CN : Addr} (TN : NTxt K mg CN) (F : Fun K "start" "Net.start" s_Net_start f fd) (z : Zs mg) : FnOk P w K mg base CX0 (k + 1) f fd ["self"] (spStartM C CN) := by
  refine F.ok sc_Net_start (fun vs H Q E h => ?_) (fun cdv A outer s H vs Q E hr h => ?_)
  · obtain ⟨p, n, rfl, _⟩ := h
    rfl
  · obtain ⟨p, n, rfl, ⟨ok, dx, fl, rl, hl2, pl, fv, rv, hv, b⟩, q⟩ := h
    refine ⟨_, (pss_one (ps_ret (pe_callTy call_tuple_of (by rfl) z.tuple (by decide +kernel) (pa_cons (pe_lc (own := [("hold", 1)]) (g := gName 1) (tt := tYes) (te := (tOp (rIxT K) (tVar 1) (tC (.int 1)))) (by rfl) sc_Net_start.nd (pi_list (pe_fld (pv 0) rfl)) (blkOk_by (own := [("hold", 1)]) (N := ["self", "hold"]) (sc := defScope s_Net_start) (by decide +kernel)) (fun _ _ _ _ _ => by exact (pg_name (i := 1) sc_Net_start.nd rfl (.inl rfl))) (fun _ _ _ _ _ => by exact pts_nil) (fun _ _ _ _ _ => by exact (pe_ix ix_tup (pv 1) pe_int (fun _ _ => rfl)))) pa_nil)))), ?_⟩
    have lh := b.hs.len
    rw [List.length_map] at lh
    have h6 := ok.h2
    refine ⟨_, rfl, p, CN, dx, _, _, rfl, b.ob, TN.cl, TN.n_hold_list, nl_h, hl2, rfl, ⟨_, SqL.of b.ha⟩, fun D hD => ?_⟩
    refine lc_it (walk_list (K := K) (a := hl2) (xs := hv)) (fun i G => Same H G ∧ G D = some (.lst (((n.holds.take i).map (·.s)).map V.int))) ⟨same_new hD, upd_same⟩ (fun i G _ hP => SqL.of (hP.1 _ _ b.ha)) (fun i v G G' hi hP hY => ?_) (fun G hP => ?_)
    · obtain ⟨s3, hd⟩ := hP
      obtain ⟨rfl, e1⟩ := hY
      obtain ⟨hp, xs, rfl, ex, hhp⟩ := b.hs.get e1
      rw [List.getElem?_map] at ex
      obtain ⟨hh, eh, rfl⟩ := Option.map_eq_some_iff.mp ex
      refine ⟨rfl, _, rfl, hp, _, 1, .int hh.s, rfl, rfl, SqT.of (s3 _ _ hhp), a1, _, hd, ?_, fun c o e => ?_, ?_⟩
      · rw [List.length_map, List.length_map, List.length_take]
        exact sl_lt (by omega)
      · rw [upd_ne (ne_of_none e hD)]
        exact s3 _ _ e
      · rw [upd_same, List.take_add_one, eh, List.map_append, List.map_append]
        rfl
    · obtain ⟨s3, hd⟩ := hP
      rw [lh, List.take_length] at hd
      refine ⟨D, _, rfl, .inl ⟨SqL.of hd, fun t ht => ?_⟩⟩
      generalize hG : upd _ t _ = G2
      obtain ⟨s4, h_t⟩ := upd_gen hG ht
      exact q t _ (s3.free ht) (s3.trans s4) h_t
theorem sc_Net_out : FnScope ["self"] ["self"] (defScope s_Net_out) := ⟨rfl, rfl, rfl, by decide +kernel, rfl, by decide +kernel, by decide +kernel⟩
theorem ok_Net_out {f : Addr} {fd : FuncData} {k : Nat} {C CN : Addr} (TN : NTxt K mg CN) (F : Fun K "out" "Net.out" s_Net_out f fd) : FnOk P w K mg base CX0 (k + 1) f fd ["self"] (spOutM C CN) := by
  refine F.ok sc_Net_out (fun vs H Q E h => ?_) (fun cdv A outer s H vs Q E hr h => ?_)
  · obtain ⟨p, n, rfl, _⟩ := h
    rfl
  · obtain ⟨p, n, rfl, ⟨ok, dx, fl, rl, hl2, pl, fv, rv, hv, b⟩, q⟩ := h
    refine ⟨_, (pss_one (ps_ret (pe_fld (pv 0) rfl))), ?_⟩
    exact ⟨_, rfl, p, CN, dx, _, _, rfl, b.ob, TN.cl, TN.n_out_at, nl_o, q⟩
theorem sc_first_state : FnScope ["net", "state"] ["net", "state"] (defScope s_first_state) := ⟨rfl, rfl, rfl, by decide +kernel, rfl, by decide +kernel, by decide +kernel⟩
theorem ok_first_state {f : Addr} {fd : FuncData} {C CN : Addr} (TN : NTxt K mg CN) (F : Fun K "first_state" "first_state" s_first_state f fd) (n_start : CalM P w K mg base 1 CN "start" ["self"] (spStartM C CN)) (c_check_state : Cal P w K mg base 4 "check_state" ["net", "state"] (spCkState C CN)) : FnOk P w K mg base CX0 5 f fd ["net", "state"] (spFirst C CN) := by
  refine F.ok sc_first_state (fun vs H Q E h => ?_) (fun cdv A outer s H vs Q E hr h => ?_)
  · obtain ⟨p, n, v, st, rfl, _⟩ := h
    rfl
  · obtain ⟨p, n, v, st, rfl, hn, hv, q⟩ := h
    refine ⟨_, (pss_cons (ps_if (pt_cmpR op_isN (pv 1) pe_non (nomark _)) (pss_one (ps_ret (pe_calm0 (pv 0) TN.cl n_start hr))) pss_nil)
      (pss_cons (ps_expr (pe_cal c_check_state hr (pa_cons (pv 0) (pa_cons (pv 1) pa_nil))))
      (pss_one (ps_ret (pv 1))))), ?_⟩
    obtain ⟨ok, dx, fl, rl, hl, pl, fv, rv, hv2, b⟩ := id hn
    rcases hv with ⟨rfl, rfl⟩ | ⟨sa, rfl, hsa, so⟩
    · exact ⟨_, rfl, rfl, _, rfl, iteC (d := true) (decide_eq_true rfl) (iteT ⟨_, rfl, p, dx, _, rfl, b.ob, nl_no (by decide +kernel), p, n, rfl, hn, fun t H' ht s h_t => q t H' s h_t⟩)⟩
    · exact ⟨_, rfl, rfl, _, rfl, iteC (d := false) (decide_eq_false (fun z => nomatch z)) (iteF ⟨_, rfl, _, rfl, p, sa, n, st, rfl, hn, hsa, so, fun H' s => ⟨_, rfl, q sa H' s (s _ _ hsa)⟩⟩)⟩
theorem sc_check_run : FnScope ["net", "words", "form", "at", "word"] ["net", "words"] (defScope s_check_run) := ⟨rfl, rfl, rfl, by decide +kernel, rfl, by decide +kernel, by decide +kernel⟩
theorem ok_check_run {f : Addr} {fd : FuncData} {C CN : Addr} (T : FTxt K mg C) (F : Fun K "check_run" "check_run" s_check_run f fd) (z : Zs mg) (c_enter_form : Cal P w K mg base 2 "enter_form" ["net"] (spEnterForm C CN)) (m_has : CalM P w K mg base 2 C "has" ["self", "thing"] (spHas K C)) : FnOk P w K mg base CX0 3 f fd ["net", "words"] (spCkRun C CN) := by
  refine F.ok sc_check_run (fun vs H Q E h => ?_) (fun cdv A outer s H vs Q E hr h => ?_)
  · obtain ⟨p, wl, n, xs, rfl, _⟩ := h
    rfl
  · obtain ⟨p, wl, n, xs, rfl, hn, hw, hx, q⟩ := h
    refine ⟨_, (pss_cons (ps_set (i := 2) sc_check_run.nd rfl (.inl rfl) (pe_cal c_enter_form hr (pa_cons (pv 0) pa_nil)))
      (pss_one (ps_for PassesOwn.never rfl (pi_enum (by rfl) z.enumerate (pa_cons (pv 1) pa_nil)) (pg_tup (by rfl) (pgs_cons (pg_name (i := 3) sc_check_run.nd rfl (.inl rfl)) (pgs_cons (pg_name (i := 4) sc_check_run.nd rfl (.inl rfl)) pgs_nil))) (pss_one (ps_if (pt_not (pt_val (pe_calm (pv 2) T.cl m_has hr (pa_cons (pv 4) pa_nil)))) (pss_one ps_never) pss_nil))))), ?_⟩
    refine ⟨_, rfl, p, n, rfl, hn, fun fp H1 s1 hf => ?_⟩
    refine ⟨_, rfl, wl, _, rfl, SqL.of (s1 _ _ hw), ?_⟩
    refine for_it (walk_enum (K := K) (a := wl) (xs := xs.map V.int)) (fun i σ G => ∃ y3 y4 : Option V, σ = [some (.ref p), some (.ref wl), some (.ref fp), y3, y4] ∧ Same H1 G) ⟨none, none, rfl, Same.refl _⟩ (fun i σ G _ hP => ?_) (fun i v σ G G' hi hP hY => ?_) (fun σ G hP => ?_)
    · obtain ⟨y3, y4, rfl, s2⟩ := hP
      exact SqL.of (s2 _ _ (s1 _ _ hw))
    · obtain ⟨y3, y4, rfl, s2⟩ := hP
      obtain ⟨Tp, u, v', rfl, nT, rfl, e1, e2⟩ := hY
      cases e1
      replace e2 : (xs.map V.int)[i]? = some v' := e2
      rw [List.getElem?_map] at e2
      obtain ⟨x, ex, rfl⟩ := Option.map_eq_some_iff.mp e2
      have s3 := s2.trans (same_new (o := .tup [.int (i : Nat), .int x]) nT)
      have hf2 := FormAt.same hf s3
      obtain ⟨dx, ho⟩ := hf2.ob
      refine ⟨Tp, _, rfl, SqT.of upd_same, rfl, _, _, rfl, _, _, rfl, rfl, ?_⟩
      refine ⟨_, rfl, fp, dx, _, rfl, ho, fl_no (by decide +kernel), _, rfl, fp, _, _, _, _, .int x, _, rfl, hf2, .inl ⟨x, rfl, rfl⟩, _, rfl, ?_⟩
      rw [hx x (List.mem_of_getElem? ex)]
      exact iteF ⟨_, _, rfl, s3⟩
    · obtain ⟨y3, y4, rfl, s2⟩ := hP
      exact q _ (s1.trans s2)
theorem sc_run : FnScope ["net", "words", "state", "told", "word", "numbers"] ["net", "words", "state"] (defScope s_run) := ⟨rfl, rfl, rfl, by decide +kernel, rfl, by decide +kernel, by decide +kernel⟩
theorem ok_run {f : Addr} {fd : FuncData} {C CN : Addr} (TN : NTxt K mg CN) {dvs : List V} (F : FunD K "run" "run" (defArgs s_run) (defBody s_run) (defScope s_run) dvs [] f fd) (z : Zs mg) (n_out : CalM P w K mg base 1 CN "out" ["self"] (spOutM C CN)) (c_first_state : Cal P w K mg base 5 "first_state" ["net", "state"] (spFirst C CN)) (c_check_run : Cal P w K mg base 3 "check_run" ["net", "words"] (spCkRun C CN)) (c_turn_of : Cal P w K mg base 8 "turn_of" ["net", "state", "word"] (spTurnOf C CN)) : FnOk P w K mg base CX0 9 f fd ["net", "words", "state"] (spRun C CN) := by
  refine F.ok sc_run (fun vs H Q E h => ?_) (fun cdv A outer s H vs Q E hr h => ?_)
  · obtain ⟨p, wl, n, xs, v, st, rfl, _⟩ := h
    rfl
  · obtain ⟨p, wl, n, xs, v, st, rfl, hn, hw, hx, hv, hls, ro, q⟩ := h
    refine ⟨_, PSs.nox (pss_cons (ps_set (i := 2) sc_run.nd rfl (.inl rfl) (pe_cal c_first_state hr (pa_cons (pv 0) (pa_cons (pv 2) pa_nil))))
      (pss_cons (ps_expr (pe_cal c_check_run hr (pa_cons (pv 0) (pa_cons (pv 1) pa_nil))))
      (pss_cons (ps_set (i := 3) sc_run.nd rfl (.inl rfl) (pe_lst pa_nil))
      (pss_cons (ps_for PassesOwn.never rfl (pi_list (pv 1)) (pg_name (i := 4) sc_run.nd rfl (.inl rfl)) (pss_cons (ps_asg (pe_cal c_turn_of hr (pa_cons (pv 0) (pa_cons (pv 2) (pa_cons (pv 4) pa_nil)))) (pg_tup (by rfl) (pgs_cons (pg_name (i := 5) sc_run.nd rfl (.inl rfl)) (pgs_cons (pg_name (i := 2) sc_run.nd rfl (.inl rfl)) pgs_nil))))
      (pss_one (ps_expr (pe_bm PySem.F.plainAttrs_list PySem.F.slot_list_append PySem.F.type_list_append mt_append (pv 3) (pa_cons (pe_ix ix_list (pv 5) (pe_calm0 (pv 0) TN.cl n_out hr) (fun _ _ => rfl)) pa_nil))))))
      (pss_one (ps_ret (pv 3))))))), ?_⟩
    obtain ⟨ok, dx, fl, rl, hl, pl, fv, rv, hv2, b⟩ := id hn
    obtain ⟨x300, rok⟩ := ro
    have outl := ok.out
    refine ⟨_, rfl, _, rfl, p, n, v, st, rfl, hn, hv, fun sa H1 s1 h_sa => ?_⟩
    refine ⟨_, rfl, _, rfl, p, wl, n, xs, rfl, hn.same s1, s1 _ _ hw, hx, fun H2 s2 => ?_⟩
    have S2 := s1.trans s2
    refine ⟨(by show 0 ≤ sizeLine; decide), fun dl hdl => ?_⟩
    generalize hG : upd _ dl _ = G0
    obtain ⟨s3, h_dl⟩ := upd_gen hG hdl
    have hdl0 := S2.free hdl
    refine ⟨_, rfl, wl, rfl, ⟨_, SqL.of (s3 _ _ (S2 _ _ hw))⟩, ?_⟩
    refine for_it (walk_list (K := K) (a := wl) (xs := xs.map V.int)) (fun i σ G => ∃ (sb : Addr) (y4 y5 : Option V), σ = [some (.ref p), some (.ref wl), some (.ref sb), some (.ref dl), y4, y5] ∧ Same H G ∧ G dl = some (.lst ((runF n st (xs.take i)).1.map V.int)) ∧ G sb = some (.tup ((runF n st (xs.take i)).2.map V.int))) ⟨sa, none, none, rfl, S2.trans s3, h_dl, s3 _ _ (s2 _ _ h_sa)⟩ (fun i σ G hi hP => ?_) (fun i v σ G G' hi hP hY => ?_) (fun σ G hP => ?_)
    · obtain ⟨sb, y4, y5, rfl, S, _⟩ := hP
      exact SqL.of (S _ _ hw)
    · obtain ⟨sb, y4, y5, rfl, S, hd, hs⟩ := hP
      obtain ⟨rfl, hY⟩ := hY
      rw [List.getElem?_map] at hY
      obtain ⟨x, ex, rfl⟩ := Option.map_eq_some_iff.mp hY
      have il := (List.getElem?_eq_some_iff.mp ex).1
      obtain ⟨f1, f2⟩ := run_facts hls i (by omega) (xs := xs)
      have nx := runF_next (n := n) (st := st) ex
      refine ⟨_, rfl, _, rfl, _, rfl, p, sb, n, x, _, rfl, hn.same S, hs, f2, rok i x ex, fun t l s H3 s4 ht hl0 hs0 h_t h_l h_s => ⟨t, _, rfl, SqT.of h_t, rfl, _, _, rfl, _, _, rfl, rfl, ?_⟩⟩
      have S4 := S.trans s4
      have hd4 := s4 _ _ hd
      have nds : s ≠ dl := (ne_of_none hd hs0).symm
      refine ⟨_, rfl, .inl ⟨rfl, _, SqL.of hd4⟩, _, rfl, _, rfl, p, dx, _, rfl, S4 _ _ b.ob, nl_no (by decide +kernel), p, n, rfl, hn.same S4, l, _, _, _, rfl, rfl, SqL.of h_l, ints_at (by rw [nums_len]; exact outl), ?_⟩
      refine ⟨dl, _, _, rfl, rfl, hd4, sl_lt (by rw [List.length_map, f1]; omega), s, _, _, rfl, fun c o e => ?_, ?_, ?_⟩
      · rw [upd_ne (ne_of_none e hdl0)]
        exact S4 _ _ e
      · rw [upd_same, nx, List.map_append]
        rfl
      · rw [upd_ne nds, nx]
        exact h_s
    · obtain ⟨sb, y4, y5, rfl, S, hd, hs⟩ := hP
      rw [List.length_map, List.take_length] at hd
      exact ⟨_, rfl, q dl _ hdl0 S hd⟩
end
end E1

namespace E1
open PySem PySem.Spec PyProof.Rows L2
/-! ### nets freed -/
def FormP.free (f : FormP) : FormP := { f with w := none }
/-- the forms whose keep rows are freed, in the order in which they are met -/
def csOf (rows : List Row) (ss : List Nat) : List Nat := ss.foldl (fun (cs : List Nat) (i : Nat) => match rows[i]? with
  | some (Row.keep f _) => if f ∈ cs then cs else cs ++ [f]
  | _ => cs) []
def frRow (L : Nat) (cs ss : List Nat) (i : Nat) : Row → Row
  | .keep f a => if i ∈ ss then .keep (L + cs.idxOf f) a else .keep f a
  | r => r
def frRows (L : Nat) (cs ss : List Nat) (rows : List Row) : List Row := rows.mapIdx (frRow L cs ss)
def NetP.freed (n : NetP) (ss : List Nat) : NetP :=
  ⟨n.fs ++ (csOf n.rows ss).map fun f => (frm n.fs f).free, n.en, frRows n.fs.length (csOf n.rows ss) ss n.rows,
    n.holds.map fun h => ⟨if h.l ∈ ss then n.fs.length + (csOf n.rows ss).idxOf h.k else h.k, h.s, h.l⟩, n.out⟩
theorem csOf_snoc (rows : List Row) (ss : List Nat) {i f a : Nat} (e : rows[i]? = some (.keep f a)) : csOf rows (ss ++ [i]) = if f ∈ csOf rows ss then csOf rows ss else csOf rows ss ++ [f] := by
  unfold csOf
  rw [List.foldl_append, List.foldl_cons, List.foldl_nil]
  simp only [e]
/-- what is told of the freed forms -/
structure CsOk (rows : List Row) (ss cs : List Nat) : Prop where
  nd : cs.Nodup
  mem : ∀ f ∈ cs, ∃ i a, i ∈ ss ∧ rows[i]? = some (.keep f a)
  has : ∀ i ∈ ss, ∀ f a, rows[i]? = some (.keep f a) → f ∈ cs
theorem nodup_snoc {l : List Nat} {x : Nat} (h : l.Nodup) (n : x ∉ l) : (l ++ [x]).Nodup := by
  rw [List.nodup_append]
  refine ⟨h, (by simp), fun a ha b hb e => n ?_⟩
  rw [List.mem_singleton.mp hb] at e
  rw [← e]
  exact ha
theorem kp_some {rows : List Row} {i : Nat} (h : kpAt rows i = true) : ∃ f a, rows[i]? = some (.keep f a) := by
  unfold kpAt at h
  split at h
  · rename_i f a e
    exact ⟨f, a, e⟩
  · cases h
theorem csOk (rows : List Row) : ∀ (k : Nat) (ss : List Nat), ss.length = k → (∀ i ∈ ss, kpAt rows i = true) → CsOk rows ss (csOf rows ss)
  | 0, ss, h, _ => by
    rw [List.length_eq_zero_iff.mp h]
    exact ⟨List.nodup_nil, (fun f hf => nomatch hf), (fun i hi => nomatch hi)⟩
  | k + 1, ss, h, hk => by
    obtain ⟨t, i, rfl⟩ : ∃ t i, ss = t ++ [i] := by
      rcases List.eq_nil_or_concat ss with rfl | ⟨t, i, e⟩
      · cases h
      · exact ⟨t, i, by rw [e, List.concat_eq_append]⟩
    rw [List.length_append, List.length_singleton] at h
    have ih := csOk rows k t (by omega) fun x hx => hk x (List.mem_append_left _ hx)
    obtain ⟨f, a, e⟩ := kp_some (hk i (List.mem_append_right _ (List.mem_singleton_self _)))
    rw [csOf_snoc rows t e]
    by_cases c : f ∈ csOf rows t
    · rw [if_pos c]
      refine ⟨ih.nd, fun g hg => ?_, fun j hj g b eg => ?_⟩
      · obtain ⟨j, b, hj, ej⟩ := ih.mem g hg
        exact ⟨j, b, List.mem_append_left _ hj, ej⟩
      · rcases List.mem_append.mp hj with hj | hj
        · exact ih.has j hj g b eg
        · rw [List.mem_singleton.mp hj, e] at eg
          cases eg
          exact c
    · rw [if_neg c]
      refine ⟨nodup_snoc ih.nd c, fun g hg => ?_, fun j hj g b eg => ?_⟩
      · rcases List.mem_append.mp hg with hg | hg
        · obtain ⟨j, b, hj, ej⟩ := ih.mem g hg
          exact ⟨j, b, List.mem_append_left _ hj, ej⟩
        · rw [List.mem_singleton.mp hg]
          exact ⟨i, a, List.mem_append_right _ (List.mem_singleton_self _), e⟩
      · rcases List.mem_append.mp hj with hj | hj
        · exact List.mem_append_left _ (ih.has j hj g b eg)
        · rw [List.mem_singleton.mp hj, e] at eg
          cases eg
          exact List.mem_append_right _ (List.mem_singleton_self _)
theorem nodup_few : ∀ (N : Nat) (l : List Nat), l.Nodup → (∀ x ∈ l, x < N) → l.length ≤ N
  | 0, l, _, h => by
    cases l with
    | nil => exact Nat.le_refl _
    | cons x t => exact absurd (h x List.mem_cons_self) (Nat.not_lt_zero _)
  | N + 1, l, nd, h => by
    by_cases c : N ∈ l
    · have := nodup_few N (l.erase N) (nd.erase N) fun x hx => by
        have h2 := (nd.mem_erase_iff).mp hx
        have := h x h2.2
        have := h2.1
        omega
      rw [List.length_erase_of_mem c] at this
      omega
    · have := nodup_few N l nd fun x hx => by
        have := h x hx
        have : x ≠ N := fun e => c (e ▸ hx)
        omega
      omega
theorem fr_get {L : Nat} {cs ss : List Nat} {rows : List Row} {i : Nat} {r : Row} (e : rows[i]? = some r) : (frRows L cs ss rows)[i]? = some (frRow L cs ss i r) := by
  unfold frRows
  rw [List.getElem?_mapIdx, e]
  rfl
theorem fr_len (L : Nat) (cs ss : List Nat) (rows : List Row) : (frRows L cs ss rows).length = rows.length := List.length_mapIdx
theorem frm_left {fs gs : List FormP} {k : Nat} (h : k < fs.length) : frm (fs ++ gs) k = frm fs k := by
  unfold frm
  rw [List.getD_eq_getElem?_getD, List.getD_eq_getElem?_getD, List.getElem?_append_left h]
theorem frm_right {fs : List FormP} {cs : List Nat} {f : Nat} (h : f ∈ cs) : (fs ++ cs.map fun f => (frm fs f).free)[fs.length + cs.idxOf f]? = some (frm fs f).free := by
  rw [List.getElem?_append_right (Nat.le_add_right _ _), Nat.add_sub_cancel_left, List.getElem?_map, List.getElem?_eq_getElem (List.idxOf_lt_length_iff.mpr h), List.getElem_idxOf]
  rfl
theorem frm_some {fs : List FormP} {k : Nat} {f : FormP} (h : fs[k]? = some f) : frm fs k = f := by
  unfold frm
  rw [List.getD_eq_getElem?_getD, h]
  rfl
theorem fpt_frm {fs : List FormP} {k : Nat} (h : k < fs.length) : fpt fs k = (frm fs k).pt := by
  unfold fpt frm
  rw [List.getD_eq_getElem?_getD, List.getD_eq_getElem?_getD, List.getElem?_map, List.getElem?_eq_getElem h]
  rfl
theorem accL_congr {g g' : List Int → Row → Int} {rows rows' : List Row} (hl : rows'.length = rows.length) (h : ∀ (i : Nat) (r r' : Row) (acc : List Int), rows[i]? = some r → rows'[i]? = some r' → g acc r = g' acc r') : accL g rows = accL g' rows' := by
  have key : ∀ i, i ≤ rows.length → accL g (rows.take i) = accL g' (rows'.take i) := by
    intro i
    induction i with
    | zero => exact fun _ => rfl
    | succ i ih =>
      intro hi
      have e1 := List.getElem?_eq_getElem (show i < rows.length by omega)
      have e2 := List.getElem?_eq_getElem (show i < rows'.length by omega)
      rw [accL_next e1, accL_next e2, ih (by omega), h i _ _ _ e1 e2]
  have := key rows.length (Nat.le_refl _)
  rw [List.take_length] at this
  rw [this, ← hl, List.take_length]
section
variable {n : NetP} {ss : List Nat}
theorem freed_form {i f a : Nat} (ok : NetOk n) (hk : ∀ i ∈ ss, kpAt n.rows i = true) (e : n.rows[i]? = some (.keep f a)) (hi : i ∈ ss) : f ∈ csOf n.rows ss ∧ (n.freed ss).fs[n.fs.length + (csOf n.rows ss).idxOf f]? = some (frm n.fs f).free :=
  have h := (csOk n.rows _ ss rfl hk).has i hi f a e
  ⟨h, frm_right h⟩
/-- a row of the freed net -/
theorem freed_row {i : Nat} {r : Row} (ok : NetOk n) (hk : ∀ i ∈ ss, kpAt n.rows i = true) (e : n.rows[i]? = some r) :
    ∃ r', (n.freed ss).rows[i]? = some r' ∧ (r' = r ∧ (∀ f a, r = .keep f a → f < n.fs.length) ∧ i ∉ ss ∨ i ∈ ss ∧ ∃ f a g, r = .keep f a ∧ r' = .keep g a ∧ f < n.fs.length ∧ g < (n.freed ss).fs.length ∧ frm (n.freed ss).fs g = (frm n.fs f).free) := by
  refine ⟨_, fr_get e, ?_⟩
  by_cases c : i ∈ ss
  · obtain ⟨f, a, ek⟩ := kp_some (hk i c)
    rw [ek] at e
    cases e
    obtain ⟨h1, h2⟩ := freed_form ok hk ek c
    refine .inr ⟨c, f, a, n.fs.length + (csOf n.rows ss).idxOf f, rfl, ?_, (ok.ro i _ ek).1, (List.getElem?_eq_some_iff.mp h2).1, frm_some h2⟩
    show (if i ∈ ss then Row.keep (n.fs.length + (csOf n.rows ss).idxOf f) a else .keep f a) = _
    rw [if_pos c]
  · refine .inl ⟨?_, fun f a er => ?_, c⟩
    · cases r with
      | keep f a =>
        show (if i ∈ ss then Row.keep (n.fs.length + (csOf n.rows ss).idxOf f) a else .keep f a) = _
        rw [if_neg c]
      | _ => rfl
    · rw [er] at e
      exact (ok.ro i _ e).1
theorem freed_hold {h : Hold} (ok : NetOk n) (hk : ∀ i ∈ ss, kpAt n.rows i = true) (hm : h ∈ n.holds) : ∃ g, (if h.l ∈ ss then n.fs.length + (csOf n.rows ss).idxOf h.k else h.k) = g ∧ g < (n.freed ss).fs.length ∧ (frm (n.freed ss).fs g).pt = (frm n.fs h.k).pt ∧
    (frm (n.freed ss).fs g = frm n.fs h.k ∨ frm (n.freed ss).fs g = (frm n.fs h.k).free) ∧ ∃ a, (n.freed ss).rows[h.l]? = some (.keep g a) := by
  obtain ⟨h1, h2, a, ea⟩ := ok.ho h hm
  obtain ⟨r', er, hr⟩ := freed_row ok hk ea
  rcases hr with ⟨rfl, _, c⟩ | ⟨c, f, b, g, ef, rfl, hf, hg, e⟩
  · refine ⟨h.k, if_neg c, ?_, ?_, .inl (frm_left h1), a, er⟩
    · show h.k < (n.fs ++ _).length
      rw [List.length_append]
      omega
    · rw [show frm (n.freed ss).fs h.k = frm n.fs h.k from frm_left h1]
  · cases ef
    obtain ⟨m1, m2⟩ := freed_form ok hk ea c
    have eg : g = n.fs.length + (csOf n.rows ss).idxOf h.k := by
      have := fr_get (L := n.fs.length) (cs := csOf n.rows ss) (ss := ss) ea
      replace er : (frRows n.fs.length (csOf n.rows ss) ss n.rows)[h.l]? = some (.keep g a) := er
      rw [er] at this
      replace this : Row.keep g a = if h.l ∈ ss then Row.keep (n.fs.length + (csOf n.rows ss).idxOf h.k) a else .keep h.k a := Option.some.inj this
      rw [if_pos c] at this
      exact (Row.keep.inj this).1
    exact ⟨g, by rw [if_pos c, eg], hg, by rw [e]; rfl, .inr e, a, er⟩
theorem freed_pts (ok : NetOk n) (hk : ∀ i ∈ ss, kpAt n.rows i = true) : (n.freed ss).pts = n.pts := by
  unfold NetP.pts
  rw [ptsOf_acc, ptsOf_acc]
  refine (accL_congr (fr_len ..) fun i r r' acc e e' => ?_).symm
  obtain ⟨r2, e2, h2⟩ := freed_row ok hk e
  replace e2 : (frRows n.fs.length (csOf n.rows ss) ss n.rows)[i]? = some r2 := e2
  rw [e2] at e'
  cases e'
  have ro := ok.ro i r e
  rcases h2 with ⟨rfl, kf, _⟩ | ⟨_, f, a, g, rfl, rfl, hf, hg, eg⟩
  · match r', ro, kf with
    | .inn, _, _ =>
      show fpt n.fs n.en = fpt (n.freed ss).fs n.en
      have e0 : n.en < (n.freed ss).fs.length := by
        show n.en < (n.fs ++ _).length
        rw [List.length_append]
        have := ok.en
        omega
      rw [fpt_frm ok.en, fpt_frm e0, show frm (n.freed ss).fs n.en = frm n.fs n.en from frm_left ok.en]
    | .old k, ro, _ =>
      show (hpts n).getD k 0 = (hpts (n.freed ss)).getD k 0
      have kl : k < n.holds.length := ro
      obtain ⟨g, eg, hg, ep, _⟩ := freed_hold ok hk (List.getElem_mem kl)
      rw [List.getD_eq_getElem?_getD, List.getD_eq_getElem?_getD]
      unfold hpts
      rw [show (n.freed ss).holds = n.holds.map fun h => ⟨if h.l ∈ ss then n.fs.length + (csOf n.rows ss).idxOf h.k else h.k, h.s, h.l⟩ from rfl, List.map_map, List.getElem?_map, List.getElem?_map, List.getElem?_eq_getElem kl]
      show fpt n.fs n.holds[k].k = fpt (n.freed ss).fs (if n.holds[k].l ∈ ss then n.fs.length + (csOf n.rows ss).idxOf n.holds[k].k else n.holds[k].k)
      rw [eg, fpt_frm (ok.ho _ (List.getElem_mem kl)).1, fpt_frm hg, ep]
    | .times _ m x, _, _ => rfl
    | .plus x y, _, _ => rfl
    | .less x y, _, _ => rfl
    | .move m x, _, _ => rfl
    | .keep f x, _, kf =>
      have hf := kf f x rfl
      have hf2 : f < (n.freed ss).fs.length := by
        show f < (n.fs ++ _).length
        rw [List.length_append]
        omega
      show fpt n.fs f = fpt (n.freed ss).fs f
      rw [fpt_frm hf, fpt_frm hf2, show frm (n.freed ss).fs f = frm n.fs f from frm_left hf]
  · show fpt n.fs f = fpt (n.freed ss).fs g
    rw [fpt_frm hf, fpt_frm hg, eg]
    rfl
theorem freed_few (ok : NetOk n) (hk : ∀ i ∈ ss, kpAt n.rows i = true) : (csOf n.rows ss).length ≤ n.fs.length :=
  have c := csOk n.rows _ ss rfl hk
  nodup_few _ _ c.nd fun f hf => by
    obtain ⟨i, a, _, e⟩ := c.mem f hf
    exact (ok.ro i _ e).1
theorem freed_ok (ok : NetOk n) (hk : ∀ i ∈ ss, kpAt n.rows i = true) (h12 : n.fs.length + (csOf n.rows ss).length ≤ 12) : NetOk (n.freed ss) := by
  have lf : (n.freed ss).fs.length = n.fs.length + (csOf n.rows ss).length := by
    show (n.fs ++ _).length = _
    rw [List.length_append, List.length_map]
  have c := csOk n.rows _ ss rfl hk
  refine ⟨by have := ok.f1; omega, by omega, fun f hf => ?_, by have := ok.en; show n.en < _; omega, by show (n.holds.map _).length ≤ 6; rw [List.length_map]; exact ok.h2, fun h hm => ?_, by show 1 ≤ (frRows _ _ _ _).length; rw [fr_len]; exact ok.r1, by show (frRows _ _ _ _).length ≤ 60; rw [fr_len]; exact ok.r2, fun i r e => ?_, by rw [freed_pts ok hk]; exact ok.po, by show n.out < (frRows _ _ _ _).length; rw [fr_len]; exact ok.out⟩
  · rcases List.mem_append.mp hf with hf | hf
    · exact ok.fo f hf
    · obtain ⟨k, hk2, rfl⟩ := List.mem_map.mp hf
      obtain ⟨i, a, _, e⟩ := c.mem k hk2
      have o := ok.fo _ (List.getElem_mem (ok.ro i _ e).1)
      rw [← frm_some (List.getElem?_eq_getElem (ok.ro i _ e).1)] at o
      exact ⟨(fun y z => nomatch z), o.p0, o.p1⟩
  · obtain ⟨h0, hm0, rfl⟩ := List.mem_map.mp hm
    obtain ⟨g, eg, hg, _, hw, a, ea⟩ := freed_hold ok hk hm0
    rw [eg]
    refine ⟨hg, fun f ef => ?_, a, ea⟩
    have e := frm_some ef
    obtain ⟨h1, h2, _⟩ := ok.ho h0 hm0
    rcases hw with hw | hw
    · rw [← e, hw]
      refine h2 _ ?_
      rw [frm_some (List.getElem?_eq_getElem h1)]
      exact List.getElem?_eq_getElem h1
    · rw [← e, hw]
      rfl
  · have il : i < n.rows.length := by
      have := (List.getElem?_eq_some_iff.mp e).1
      replace this : i < (frRows n.fs.length (csOf n.rows ss) ss n.rows).length := this
      rwa [fr_len] at this
    have e0 := List.getElem?_eq_getElem il
    obtain ⟨r2, e2, h2⟩ := freed_row ok hk e0
    rw [e2] at e
    cases e
    have ro := ok.ro i _ e0
    have hh : (n.freed ss).holds.length = n.holds.length := List.length_map ..
    rw [hh]
    rcases h2 with ⟨rfl, kf, _⟩ | ⟨_, f, a, g, ef, rfl, hf, hg, eg⟩
    · generalize n.rows[i] = r at *
      match r, ro with
      | .inn, _ => trivial
      | .old k, h => exact h
      | .times _ _ _, h => exact h
      | .plus _ _, h => exact h
      | .less _ _, h => exact h
      | .move _ _, h => exact h
      | .keep f a, h => exact ⟨by have := h.1; omega, h.2⟩
    · rw [ef] at ro
      exact ⟨hg, ro.2⟩
end
/-! ### the dict of what became of a form -/
def cvK (L : Nat) : List Nat → List (Key × V)
  | [] => []
  | f :: t => (Sum.inl (f : Int), V.int (L : Int)) :: cvK (L + 1) t
theorem cvK_len : ∀ (L : Nat) (cs : List Nat), (cvK L cs).length = cs.length
  | _, [] => rfl
  | L, f :: t => by
    show (cvK (L + 1) t).length + 1 = t.length + 1
    rw [cvK_len]
theorem cvK_snoc (f : Nat) : ∀ (L : Nat) (cs : List Nat), cvK L (cs ++ [f]) = cvK L cs ++ [(Sum.inl (f : Int), V.int ((L + cs.length : Nat) : Int))]
  | _, [] => rfl
  | L, g :: t => by
    show (Sum.inl (g : Int), V.int (L : Int)) :: cvK (L + 1) (t ++ [f]) = (Sum.inl (g : Int), V.int (L : Int)) :: (cvK (L + 1) t ++ _)
    rw [cvK_snoc f (L + 1) t, List.length_cons, show L + 1 + t.length = L + (t.length + 1) by omega]
theorem idx_ne {g f : Nat} {t : List Nat} (c : ¬ g = f) : (g :: t).idxOf f = (t.idxOf f).succ := by
  rw [List.idxOf_cons, show (g == f) = false from beq_eq_false_iff_ne.mpr c]
  rfl
theorem cvK_get (f : Nat) : ∀ (L : Nat) (cs : List Nat), valV (cvK L cs) (Sum.inl (f : Int)) = if f ∈ cs then some (V.int ((L + cs.idxOf f : Nat) : Int)) else none
  | _, [] => rfl
  | L, g :: t => by
    by_cases c : g = f
    · subst c
      rw [if_pos List.mem_cons_self, List.idxOf_cons_self]
      exact valV_pos rfl
    · have ne : ¬ (Sum.inl (g : Int) : Key) = Sum.inl (f : Int) := fun z => c (by have := Sum.inl.inj z; omega)
      rw [show cvK L (g :: t) = (Sum.inl (g : Int), V.int (L : Int)) :: cvK (L + 1) t from rfl, valV_neg ne, cvK_get f (L + 1) t]
      by_cases m : f ∈ t
      · rw [if_pos m, if_pos (List.mem_cons_of_mem _ m), idx_ne c, show L + 1 + t.idxOf f = L + (t.idxOf f).succ by omega]
      · rw [if_neg m, if_neg (fun z => by
          rcases List.mem_cons.mp z with z | z
          · exact c z.symm
          · exact m z)]
/-- rows, one more freed -/
theorem frRows_set {rows : List Row} {ss cs : List Nat} {i f a L : Nat} (e : rows[i]? = some (.keep f a)) (hi : i ∉ ss) (hc : ∀ j ∈ ss, ∀ g b, rows[j]? = some (.keep g b) → g ∈ cs) {cs' : List Nat} (h' : cs' = cs ∧ f ∈ cs ∨ cs' = cs ++ [f] ∧ f ∉ cs) :
    (frRows L cs ss rows).set i (.keep (L + cs'.idxOf f) a) = frRows L cs' (ss ++ [i]) rows := by
  have idx : ∀ g ∈ cs, cs'.idxOf g = cs.idxOf g := fun g hg => by
    rcases h' with ⟨rfl, _⟩ | ⟨rfl, _⟩
    · rfl
    · rw [List.idxOf_append, if_pos hg]
  refine List.ext_getElem? fun j => ?_
  rw [List.getElem?_set]
  by_cases c : i = j
  · subst c
    have il := (List.getElem?_eq_some_iff.mp e).1
    rw [if_pos rfl, fr_len, if_pos il, fr_get e]
    show _ = some (if i ∈ ss ++ [i] then Row.keep (L + cs'.idxOf f) a else .keep f a)
    rw [if_pos (List.mem_append_right _ (List.mem_singleton_self _))]
  · rw [if_neg c]
    cases ej : rows[j]? with
    | none =>
      have jl := List.getElem?_eq_none_iff.mp ej
      rw [List.getElem?_eq_none (by rw [fr_len]; exact jl), List.getElem?_eq_none (by rw [fr_len]; exact jl)]
    | some r =>
      rw [fr_get ej, fr_get ej]
      congr 1
      cases r with
      | keep g b =>
        show (if j ∈ ss then Row.keep (L + cs.idxOf g) b else .keep g b) = if j ∈ ss ++ [i] then Row.keep (L + cs'.idxOf g) b else .keep g b
        by_cases m : j ∈ ss
        · rw [if_pos m, if_pos (List.mem_append_left _ m), idx g (hc j m g b ej)]
        · rw [if_neg m, if_neg (fun z => by
            rcases List.mem_append.mp z with z | z
            · exact m z
            · exact c (List.mem_singleton.mp z).symm)]
      | _ => rfl
theorem frRows_nil (L : Nat) (rows : List Row) : frRows L [] [] rows = rows := by
  refine List.ext_getElem? fun j => ?_
  cases ej : rows[j]? with
  | none => rw [List.getElem?_eq_none (by rw [fr_len]; exact List.getElem?_eq_none_iff.mp ej)]
  | some r =>
    rw [fr_get ej]
    cases r <;> rfl

def spWoW (C : Addr) : Sp := fun vs H Q _ => ∃ (p : Addr) (f : FormP), vs = [.ref p] ∧ FAt C H p f ∧ ∀ q H', Same H H' → FAt C H' q f.free → Q (.ref q) H'
structure NoCh (K : PySem.W.Frag) (mg : Str → Option Value) (CC : Addr) : Prop where
  g : mg "NoChoice" = some (.ref CC)
  x : PySem.W.excIn K CC PySem.ErrX.bmA "ArithmeticError.__new__" = true
  k : PySem.W.keepIn K (.ref CC) = true
  b : PySem.W.subIn K (.ref CC) (.type "BaseException") = some true
  t : PySem.W.typeIn K (.ref CC) = some (.type "type")
def spFreedX (K : PySem.W.Frag) (C CN CC CB : Addr) : Sp := fun vs H Q E => ∃ (p kl : Addr) (n : NetP) (xs : List V) (bs : List Bool), vs = [.ref p, .ref kl] ∧ NetAt C CN H p n ∧ H kl = some (.lst xs) ∧ xs.length ≤ 63 ∧ bs.length = xs.length ∧ (∀ (i : Nat) (v : V) (b : Bool), xs[i]? = some v → bs[i]? = some b → KeepIs K H v n b) ∧
  (bs.all id = false → ∀ H', Same H H' → E (.ref CC) none H') ∧
  (bs.all id = true → ∃ ks : List Nat, xs = ks.map nI ∧ (∀ k ∈ ks, kpAt n.rows k = true) ∧ ∀ ss : List Nat, ss.Pairwise (· < ·) → (∀ k, k ∈ ss ↔ k ∈ ks) →
    (n.fs.length + (csOf n.rows ss).length ≤ 12 → ∀ q H', Same H H' → NetAt C CN H' q (n.freed ss) → Q (.ref q) H') ∧ (12 < n.fs.length + (csOf n.rows ss).length → ∀ d H', Same H H' → H d = none → BnAt H' d "forms" .non → E (.ref CB) (some d) H'))
theorem KeepIs.same {K : PySem.W.Frag} {H H' : Hp} {x : V} {n : NetP} {b : Bool} (h : KeepIs K H x n b) (s : Same H H') : KeepIs K H' x n b := by
  rcases h with h | ⟨h, e⟩
  · exact .inl h
  · exact .inr ⟨h.same s, e⟩
theorem fat_ins {C : Addr} {H : Hp} {p : Addr} {f : FormP} (h : FAt C H p f) : ∃ dx, H p = some (.ins C dx (flds f.w f.pt f.m f.st)) := h.ob
theorem FsAt.but7 {C : Addr} {H H' : Hp} {vs : List V} {fs : List FormP} (h : FsAt C H vs fs) (s : ∀ (q : Addr) (o : HO), H q = some o → (∀ u, o ≠ .dK u) → H' q = some o) : FsAt C H' vs fs := by
  induction h with
  | nil => exact .nil
  | cons e _ ih =>
    obtain ⟨d, ho⟩ := e.ob
    exact .cons ⟨⟨d, s _ _ ho (fun _ z => nomatch z)⟩, e.wo, e.p0, e.p1⟩ ih
theorem frm_get {fs : List FormP} {k : Nat} (h : k < fs.length) : fs[k]? = some (frm fs k) := by
  rw [frm_some (List.getElem?_eq_getElem h)]
  exact List.getElem?_eq_getElem h
theorem ixN_nat {i n : Nat} (h : i < n) : ixN n (i : Int) = some i := by
  unfold ixN
  rw [if_pos (by omega), if_pos (by omega)]
  rfl
theorem nat_list {ss : List Int} {ks : List Nat} (h : ∀ k : Int, k ∈ ss ↔ k ∈ ks.map fun n : Nat => (n : Int)) : ∃ ts : List Nat, ss = ts.map (fun n : Nat => (n : Int)) ∧ ∀ k, k ∈ ts ↔ k ∈ ks := by
  have pos : ∀ k ∈ ss, ((k.toNat : Nat) : Int) = k := fun k hk => by
    obtain ⟨n, _, e⟩ := List.mem_map.mp ((h k).mp hk)
    omega
  refine ⟨ss.map Int.toNat, ?_, fun k => ⟨fun hk => ?_, fun hk => ?_⟩⟩
  · rw [List.map_map]
    have : ss.map id = ss.map ((fun n : Nat => (n : Int)) ∘ Int.toNat) := List.map_congr_left fun k hk => (pos k hk).symm
    rw [← this, List.map_id]
  · obtain ⟨x, hx, e⟩ := List.mem_map.mp hk
    obtain ⟨n, hn, e2⟩ := List.mem_map.mp ((h x).mp hx)
    have : n = k := by omega
    exact this ▸ hn
  · exact List.mem_map.mpr ⟨(k : Int), (h k).mpr (List.mem_map.mpr ⟨k, hk, rfl⟩), by omega⟩
theorem take_mem {ss : List Nat} {i x : Nat} (nd : ss.Pairwise (· < ·)) (e : ss[i]? = some x) : x ∉ ss.take i := fun hm => by
  obtain ⟨j, ej⟩ := List.mem_iff_getElem?.mp hm
  rw [List.getElem?_take] at ej
  split at ej
  · rename_i lt
    obtain ⟨l1, e1⟩ := List.getElem?_eq_some_iff.mp e
    obtain ⟨l2, e2⟩ := List.getElem?_eq_some_iff.mp ej
    have := List.pairwise_iff_getElem.mp nd j i l2 l1 lt
    omega
  · cases ej
section
variable {P : Program} {w : World} {K : PySem.W.Frag} {mg : Str → Option Value} {base : Heap}
theorem sc_without_width : FnScope ["form"] ["form"] (defScope s_without_width) := ⟨rfl, rfl, rfl, by decide +kernel, rfl, by decide +kernel, by decide +kernel⟩
theorem ok_without_width {f : Addr} {fd : FuncData} {C : Addr} (T : FTxt K mg C) (F : Fun K "without_width" "without_width" s_without_width f fd) (c_Form_4 : CalC P w K mg base 3 "Form" C ["self", "width", "point", "manner", "ends"] [] (spInit C)) : FnOk P w K mg base CX0 5 f fd ["form"] (spWoW C) := by
  refine F.ok sc_without_width (fun vs H Q E h => ?_) (fun cdv A outer s H vs Q E hr h => ?_)
  · obtain ⟨p, f, rfl, _⟩ := h
    rfl
  · obtain ⟨p, f, rfl, hf, q⟩ := h
    refine ⟨_, (pss_one (ps_ret (pe_calc c_Form_4 hr (pa_cons pe_non (pa_cons (pe_fld (pv 0) rfl) (pa_cons (pe_fld (pv 0) rfl) (pa_cons (pe_fld (pv 0) rfl) pa_nil))))))), ?_⟩
    obtain ⟨dx, ho⟩ := fat_ins hf
    have fo : f.Ok := ⟨hf.wo, hf.p0, hf.p1⟩
    refine ⟨_, rfl, p, C, dx, _, _, rfl, ho, T.cl, T.nP, fl_p, _, rfl, p, C, dx, _, _, rfl, ho, T.cl, T.nM, fl_m, _, rfl, p, C, dx, _, _, rfl, ho, T.cl, T.nE, fl_e, fun x d2 hx0 hdx ne => ?_⟩
    have sM := make_same (C := C) hx0 hdx ne
    refine ⟨x, d2, none, f.pt, f.m, f.st, rfl, (fun y z => nomatch z), fo.p0, fo.p1, upd_same, fun H2 hF fr1 fr2 => ⟨rfl, ?_⟩⟩
    exact q x H2 (fun b o e => fr1 b o (ne_of_none e hx0) (sM _ _ e)) hF
theorem sc_freed : FnScope ["net", "rows", "forms", "changed", "free", "at", "kind", "form", "kept", "holds", "number", "word", "row"] ["net", "rows"] (defScope s_freed) := ⟨rfl, rfl, rfl, by decide +kernel, rfl, by decide +kernel, by decide +kernel⟩
theorem ok_freed {f : Addr} {fd : FuncData} {C CN CC CB : Addr} (NF : NoCh K mg CC) (T : FTxt K mg C) (TN : NTxt K mg CN) (F : Fun K "freed" "freed" s_freed f fd) (z : Zs mg) (n_rows : CalM P w K mg base 1 CN "rows" ["self"] (spRowsM C CN)) (n_forms : CalM P w K mg base 1 CN "forms" ["self"] (spFormsM C CN)) (n_holds : CalM P w K mg base 1 CN "holds" ["self"] (spHoldsM C CN)) (n_enters : CalM P w K mg base 1 CN "enters" ["self"] (spEnM C CN)) (n_out : CalM P w K mg base 1 CN "out" ["self"] (spOutM C CN)) (c_is_keep_number : Cal P w K mg base 4 "is_keep_number" ["net", "thing"] (spKeepNo K C CN)) (c_without_width : Cal P w K mg base 5 "without_width" ["form"] (spWoW C)) (c_Net_5 : CalCX P w K mg base 6 "Net" CN ["self", "forms", "enters", "rows", "holds", "out"] [] (spNetInitX C CN CB)) : FnOk P w K mg base (L2.CX P w) 8 f fd ["net", "rows"] (spFreedX K C CN CC CB) := by
  refine F.okX sc_freed (fun vs H Q E h => ?_) (fun cdv A outer s H vs Q E hr h => ?_)
  · obtain ⟨p, kl, n, xs, bs, rfl, _⟩ := h
    rfl
  · obtain ⟨p, kl, n, xs, bs, rfl, hn, hkl, k63, lbs, hbs, qn, qy⟩ := h
    refine ⟨_, (pss_cons (ps_if (PW.pt (pw_or (pt_not (pt_val (pe_callB call_isi (by rfl) z.isinstance (by decide +kernel) (pa_cons (pv 1) (pa_cons (pe_bltn (v := .ty "list") (by rfl) z.list (by decide +kernel) rfl) pa_nil))))) (pw_or1 (pt_not (pt_val (pe_callB (cr_all rfl) (by rfl) z.all (by decide +kernel) (pa_cons (pe_lc (own := [("row", 12)]) (g := gName 12) (tt := tYes) (te := (tCall (spKeepNo K C CN) [] E0 (tCons (tVar 0) (tCons (tVar 12) tNil)))) (by rfl) sc_freed.nd (pi_list (pv 1)) (blkOk_by (own := [("row", 12)]) (N := ["net", "rows", "forms", "changed", "free", "at", "kind", "form", "kept", "holds", "number", "word", "row"]) (sc := defScope s_freed) (by decide +kernel)) (fun _ _ _ _ _ => by exact (pg_name (i := 12) sc_freed.nd rfl (.inl rfl))) (fun _ _ _ _ _ => by exact pts_nil) (fun _ _ _ _ _ => by exact (pe_cal c_is_keep_number hr (pa_cons (pv 0) (pa_cons (pv 12) pa_nil))))) pa_nil))))))) (pss_one (ps_raise rfl (takes_of rfl rfl rfl rfl) (pmk_own PySem.F.excBase_ArithmeticError NF.x NF.g NF.k (raises_own NF.b NF.t) rfl))) pss_nil)
      (pss_cons (ps_set (i := 2) sc_freed.nd rfl (.inl rfl) (pe_calm0 (pv 0) TN.cl n_forms hr))
      (pss_cons (ps_set (i := 3) sc_freed.nd rfl (.inr rfl) (pe_calm0 (pv 0) TN.cl n_rows hr))
      (pss_cons (ps_set (i := 4) sc_freed.nd rfl (.inl rfl) pe_dnewK)
      (pss_cons (ps_for (passes_of rfl) rfl (pi_list (pe_callB (cr_sortedSet rfl) (by rfl) z.sorted (by decide +kernel) (pa_cons (pe_callTy (cr_setL rfl) (by rfl) z.set (by decide +kernel) (pa_cons (pv 1) pa_nil)) pa_nil))) (pg_name (i := 5) sc_freed.nd rfl (.inl rfl)) (pss_cons (ps_asg (pe_ix ix_list (pv 3) (pv 5) (fun _ _ => rfl)) (pg_tup (by rfl) (pgs_cons (pg_name (i := 6) sc_freed.nd rfl (.inl rfl)) (pgs_cons (pg_name (i := 7) sc_freed.nd rfl (.inl rfl)) (pgs_cons (pg_name (i := 8) sc_freed.nd rfl (.inl rfl)) pgs_nil)))))
      (C8.pss_cut (ps_if (pt_cmp (pc_dnotin (hu_of hr) (pv 7) (pv 4))) (pss_cons (ps_dput (hu_of hr) (pv 4) (pv 7) (pe_callB call_len_seq (by rfl) z.len PySem.boot_len (pa_cons (pv 2) pa_nil)) rfl)
      (pss_one (ps_expr (pe_bm PySem.F.plainAttrs_list PySem.F.slot_list_append PySem.F.type_list_append mt_append (pv 2) (pa_cons (pe_cal c_without_width hr (pa_cons (pe_ix ix_list (pv 2) (pv 7) (fun _ _ => rfl)) pa_nil)) pa_nil))))) pss_nil)
      (pss_one (ps_asg (pe_tup (pa_cons pe_str (pa_cons (pe_dget (hu_of hr) (pv 4) (pv 7) (fun _ _ => rfl)) (pa_cons (pv 8) pa_nil)))) (pg_sub (pv 3) (pv 5) set_list))))))
      (pss_cons (ps_setLc (i := 9) (own := [("number", 10), ("word", 11), ("row", 12)]) (g := gTup K 3 (gCons (gName 10) (gCons (gName 11) (gCons (gName 12) gNil)))) (tt := tYes) (te := (tTup (tCons (tOp (rIxT K) (tOp (rIxL K) (tVar 3) (tVar 12)) (tC (.int 1))) (tCons (tVar 11) (tCons (tVar 12) tNil))))) (by rfl) sc_freed.nd rfl rfl (sw_true rfl rfl rfl (by decide +kernel)) (pi_list (pe_calm0 (pv 0) TN.cl n_holds hr)) (blkOk_by (own := [("number", 10), ("word", 11), ("row", 12)]) (N := ["net", "rows", "forms", "changed", "free", "at", "kind", "form", "kept", "holds", "number", "word", "row"]) (sc := defScope s_freed) (by decide +kernel)) (fun _ _ _ _ _ => by exact (pg_tup (by rfl) (pgs_cons (pg_name (i := 10) sc_freed.nd rfl (.inl rfl)) (pgs_cons (pg_name (i := 11) sc_freed.nd rfl (.inl rfl)) (pgs_cons (pg_name (i := 12) sc_freed.nd rfl (.inl rfl)) pgs_nil))))) (fun _ _ _ _ _ => by exact pts_nil) (fun _ _ _ _ _ => by exact (pe_tup (pa_cons (pe_ix ix_tup (pe_ix ix_list (pv 3) (pv 12) (fun _ _ => rfl)) pe_int (fun _ _ => rfl)) (pa_cons (pv 11) (pa_cons (pv 12) pa_nil))))))
      (pss_one (ps_ret (pe_calcX c_Net_5 hr (takes_of rfl rfl rfl rfl) (pa_cons (pv 2) (pa_cons (pe_calm0 (pv 0) TN.cl n_enters hr) (pa_cons (pv 3) (pa_cons (pv 9) (pa_cons (pe_calm0 (pv 0) TN.cl n_out hr) pa_nil)))))))))))))), ?_⟩
    obtain ⟨ok, dx, _, _, _, _, _, _, _, b⟩ := id hn
    refine ⟨_, rfl, _, _, _, _, true, rfl, .ty _, .base (.lst hkl), rfl, _, rfl, iteF ?_⟩
    refine ⟨_, rfl, kl, rfl, ⟨_, SqL.of hkl⟩, fun D hD => ?_⟩
    refine lc_it (walk_list (K := K) (a := kl) (xs := xs)) (fun i G => Same H G ∧ G D = some (.lst ((bs.take i).map V.bl))) ⟨same_new hD, upd_same⟩ (fun i G _ hP => SqL.of (hP.1 _ _ hkl)) (fun i v G G' hi hP hY => ?_) (fun G hP => ?_)
    · obtain ⟨s1, hd⟩ := hP
      obtain ⟨rfl, hx⟩ := hY
      have eb := List.getElem?_eq_getElem (show i < bs.length by omega)
      refine ⟨rfl, _, rfl, _, rfl, p, n, v, bs[i], rfl, hn.same s1, (hbs i v _ hx eb).same s1, fun G2 s2 => ⟨_, s2 _ _ hd, ?_, fun b' o e => ?_, ?_⟩⟩
      · rw [List.length_map, List.length_take]
        exact sl_lt (by omega)
      · rw [upd_ne (ne_of_none e hD)]
        exact s2 _ _ (s1 _ _ e)
      · rw [upd_same, List.take_add_one, eb, Option.toList_some, List.map_append]
        rfl
    obtain ⟨s1, hd⟩ := hP
    rw [← lbs, List.take_length] at hd
    refine ⟨D, _, rfl, SqL.of hd, ?_⟩
    refine ⟨_, rfl, ?_⟩
    cases eall : bs.all id with
    | false => exact iteT (qn eall G s1)
    | true =>
    refine iteF ?_
    obtain ⟨ks, rfl, hk, qq⟩ := qy eall
    rw [List.length_map] at k63
    refine ⟨_, rfl, p, dx, _, rfl, s1 _ _ b.ob, nl_no (by decide +kernel), p, n, rfl, hn.same s1, fun fl2 fv2 G2 hf2 s2 h_fl2 hff => ?_⟩
    have S2 := s1.trans s2
    refine ⟨_, rfl, p, dx, _, rfl, S2 _ _ b.ob, nl_no (by decide +kernel), p, n, rfl, hn.same S2, fun rl2 rv2 G3 hr2 s3 h_rl2 hrr => ?_⟩
    have S3 := S2.trans s3
    refine fun d hd0 => ?_
    generalize hG4 : upd _ d _ = G4
    obtain ⟨s4, h_d⟩ := upd_gen hG4 hd0
    have S4 := S3.trans s4
    have e1 : ks.map nI = (ks.map fun n : Nat => (n : Int)).map V.int := by rw [List.map_map]; rfl
    refine ⟨_, rfl, kl, ks.map (fun n : Nat => (n : Int)), rfl, SqL.of (by rw [← e1]; exact S4 _ _ hkl), by rw [List.length_map]; omega, fun st mm hst hm => ?_⟩
    generalize hG5 : upd _ st _ = G5
    obtain ⟨s5, h_st⟩ := upd_gen hG5 hst
    rw [List.length_map] at hm
    refine ⟨st, _, mm, rfl, h_st, by omega, fun ns l6 pw mem len hl6 => ?_⟩
    generalize hG6 : upd _ l6 _ = G6
    obtain ⟨s6, h_l6⟩ := upd_gen hG6 hl6
    obtain ⟨ss, rfl, memN⟩ := nat_list (ss := ns) (ks := ks) (fun k => by rw [mem k, decide_eq_true_eq])
    have pwN : ss.Pairwise (· < ·) := (List.pairwise_map.mp pw).imp fun h => by omega
    obtain ⟨q, qe⟩ := qq ss pwN memN
    rw [List.length_map] at len
    have S6 := S4.trans (s5.trans s6)
    have hks : ∀ i ∈ ss, kpAt n.rows i = true := fun i hi => hk i ((memN i).mp hi)
    have r60 := ok.r2
    have f12 := ok.f2
    have nfr : fl2 ≠ rl2 := ne_of_none h_fl2 hr2
    have h_fl6 := s6 _ _ (s5 _ _ (s4 _ _ (s3 _ _ h_fl2)))
    have h_rl6 := s6 _ _ (s5 _ _ (s4 _ _ h_rl2))
    have h_d6 := s6 _ _ (s5 _ _ h_d)
    have hff6 := hff.same (s3.trans (s4.trans (s5.trans s6)))
    have hrr6 := hrr.same (s4.trans (s5.trans s6))
    have ndf : d ≠ fl2 := ne_of h_d6 h_fl6 (fun z => nomatch z)
    have ndr : d ≠ rl2 := ne_of h_d6 h_rl6 (fun z => nomatch z)
    have f0 : H fl2 = none := s1.free hf2
    have r0 : H rl2 = none := S2.free hr2
    have d0 : H d = none := S3.free hd0
    have nlf : l6 ≠ fl2 := (ne_of_none (s5 _ _ (s4 _ _ (s3 _ _ h_fl2))) hl6).symm
    have nlr : l6 ≠ rl2 := (ne_of_none (s5 _ _ (s4 _ _ h_rl2)) hl6).symm
    refine ⟨l6, rfl, ⟨_, SqL.of h_l6⟩, ?_⟩
    clear hd hD qq hst hl6 h_st hG4 hG5 hG6 s2 s3 s4 s5 s6 S2 S3 S4 h_fl2 h_rl2 h_d hff hrr mem pw hf2 hr2 hd0 s1
    refine for_it (walk_list (K := K) (a := l6) (xs := (ss.map fun n : Nat => (n : Int)).map V.int)) (fun i σ G => ∃ (y5 y6 y7 y8 : Option V) (fv rv : List V), σ = [some (.ref p), some (.ref kl), some (.ref fl2), some (.ref rl2), some (.ref d), y5, y6, y7, y8, none, none, none, none] ∧ Same H G ∧ G l6 = some (.lst ((ss.map fun n : Nat => (n : Int)).map V.int)) ∧ G fl2 = some (.lst fv) ∧ FsAt C G fv (n.fs ++ (csOf n.rows (ss.take i)).map fun f => (frm n.fs f).free) ∧ G rl2 = some (.lst rv) ∧ TsAt G rv ((frRows n.fs.length (csOf n.rows (ss.take i)) (ss.take i) n.rows).map Row.vs) ∧ G d = some (.dK (cvK n.fs.length (csOf n.rows (ss.take i))))) ⟨none, none, none, none, fv2, rv2, rfl, S6, h_l6, h_fl6, ?_, h_rl6, ?_, h_d6⟩ (fun i σ G _ hP => by obtain ⟨y5, y6, y7, y8, fv, rv, rfl, _, hl, _⟩ := hP; exact SqL.of hl) (fun i v σ G G' hi hP hY => ?_) (fun σ G hP => ?_)
    · rw [List.take_zero]
      show FsAt C G6 fv2 (n.fs ++ [])
      rw [List.append_nil]
      exact hff6
    · rw [List.take_zero]
      show TsAt G6 rv2 ((frRows n.fs.length [] [] n.rows).map Row.vs)
      rw [frRows_nil]
      exact hrr6
    · obtain ⟨y5, y6, y7, y8, fv, rv, rfl, sG, hl, hfl, tf, hrl, tr, hdd⟩ := hP
      obtain ⟨rfl, hx⟩ := hY
      rw [List.getElem?_map, List.getElem?_map] at hx
      obtain ⟨j0, ej0, rfl⟩ := Option.map_eq_some_iff.mp hx
      obtain ⟨j, ej, rfl⟩ := Option.map_eq_some_iff.mp ej0
      have kj := hks j (List.mem_of_getElem? ej)
      obtain ⟨f, a, er⟩ := kp_some kj
      have jl := (List.getElem?_eq_some_iff.mp er).1
      have hf := (ok.ro j _ er).1
      have nj := take_mem pwN ej
      have ck := csOk n.rows _ (ss.take i) rfl fun x hx => hks x (List.mem_of_mem_take hx)
      have c12 : (csOf n.rows (ss.take i)).length ≤ n.fs.length := nodup_few _ _ ck.nd fun g hg => by
        obtain ⟨x, y, _, e⟩ := ck.mem g hg
        exact (ok.ro x _ e).1
      have stp : csOf n.rows (ss.take (i + 1)) = if f ∈ csOf n.rows (ss.take i) then csOf n.rows (ss.take i) else csOf n.rows (ss.take i) ++ [f] := by
        rw [List.take_add_one, ej, Option.toList_some, csOf_snoc _ _ er]
      have stt : ss.take (i + 1) = ss.take i ++ [j] := by rw [List.take_add_one, ej, Option.toList_some]
      have lfv := tf.len
      rw [List.length_append, List.length_map] at lfv
      have lrv := tr.rlen
      rw [fr_len] at lrv
      have e1r : (frRows n.fs.length (csOf n.rows (ss.take i)) (ss.take i) n.rows)[j]? = some (.keep f a) := by
        rw [fr_get er]
        show some (if j ∈ ss.take i then _ else Row.keep f a) = _
        rw [if_neg nj]
      obtain ⟨rp, erp, hrp⟩ := tr.at (i := j) (xs := (Row.keep f a).vs) (by rw [List.getElem?_map, e1r]; rfl)
      generalize csOf n.rows (ss.take i) = cs at *
      refine ⟨_, rfl, _, rfl, rl2, _, _, .ref rp, rfl, rfl, SqL.of hrl, atI_nat erp, rp, _, rfl, SqT.of hrp, rfl, _, _, rfl, _, _, rfl, _, _, rfl, rfl, ?_⟩
      have get1 := DGet.k (k := Sum.inl (f : Int)) hdd
      rw [cvK_get] at get1
      refine ⟨fun σ G4 => ∃ (cs' : List Nat) (fv' : List V), (cs' = cs ∧ f ∈ cs ∨ cs' = cs ++ [f] ∧ f ∉ cs) ∧ σ = [some (.ref p), some (.ref kl), some (.ref fl2), some (.ref rl2), some (.ref d), some (.int (j : Int)), some (.str "keep"), some (.int (f : Int)), some (.int (a : Int)), none, none, none, none] ∧ Same H G4 ∧ G4 l6 = some (.lst ((ss.map fun n : Nat => (n : Int)).map V.int)) ∧ G4 fl2 = some (.lst fv') ∧ FsAt C G4 fv' (n.fs ++ cs'.map fun f => (frm n.fs f).free) ∧ G4 rl2 = some (.lst rv) ∧ TsAt G4 rv ((frRows n.fs.length cs (ss.take i) n.rows).map Row.vs) ∧ G4 d = some (.dK (cvK n.fs.length cs')), ?_, fun σ G4 hM => ?_⟩
      · refine ⟨_, rfl, _, rfl, d, _, rfl, get1, _, rfl, ?_⟩
        by_cases c : f ∈ cs
        · rw [if_pos c]
          exact iteF ⟨cs, fv, .inl ⟨rfl, c⟩, rfl, sG, hl, hfl, tf, hrl, tr, hdd⟩
        · rw [if_neg c]
          refine iteT ?_
          refine ⟨_, rfl, fl2, _, rfl, .inl (SqL.of hfl), _, rfl, _, rfl, d, _, rfl, DPut.k (k := Sum.inl (f : Int)) hdd (sl_lt (by rw [cvK_len]; omega)), ?_⟩
          have ep : putK (cvK n.fs.length cs) (Sum.inl (f : Int)) (V.int (fv.length : Int)) = cvK n.fs.length (cs ++ [f]) := by
            rw [putK_new _ (by rw [cvK_get, if_neg c]), cvK_snoc, lfv]
          rw [ep]
          generalize hG7 : upd _ d _ = G7
          obtain ⟨s7, h_d7⟩ := upd_but hG7
          have hfl7 := s7 _ _ ndf.symm hfl
          have noD : ∀ (q : Addr) (o : HO), G' q = some o → (∀ u, o ≠ .dK u) → G7 q = some o := fun q o e no => s7 _ _ (fun z => no _ (by rw [z, hdd] at e; exact (Option.some.inj e).symm)) e
          have tf7 : FsAt C G7 fv (n.fs ++ cs.map fun f => (frm n.fs f).free) := tf.but7 noD
          obtain ⟨q1, eq1, hq1⟩ := tf7.at (i := f) (f := frm n.fs f) (by rw [List.getElem?_append_left hf]; exact frm_get hf)
          refine ⟨_, rfl, .inl ⟨rfl, _, SqL.of hfl7⟩, _, rfl, _, rfl, fl2, _, _, .ref q1, rfl, rfl, SqL.of hfl7, atI_nat eq1, q1, frm n.fs f, rfl, hq1, fun q2 G8 s8 hq2 => ?_⟩
          have hfl8 := s8 _ _ hfl7
          refine ⟨fl2, _, _, rfl, rfl, hfl8, sl_lt (by omega), cs ++ [f], fv ++ [.ref q2], .inr ⟨rfl, c⟩, rfl, fun x o e => ?_, ?_, upd_same, ?_, ?_, ?_, ?_⟩
          · rw [upd_ne (ne_of_none e f0)]
            exact s8 _ _ (s7 _ _ (ne_of_none e d0) (sG _ _ e))
          · rw [upd_ne nlf]
            exact s8 _ _ (noD _ _ hl (fun _ z => nomatch z))
          · rw [List.map_append, ← List.append_assoc]
            exact ((tf7.same s8).app (fat_one hq2)).butL SameBut.upd hfl8
          · rw [upd_ne nfr.symm]
            exact s8 _ _ (noD _ _ hrl (fun _ z => nomatch z))
          · exact ((tr.mono fun q xs e => noD _ _ e (fun _ z => nomatch z)).same s8).but SameBut.upd hfl8
          · rw [upd_ne ndf]
            exact s8 _ _ h_d7
      obtain ⟨cs', fv', hcs, rfl, sG4, hl4, hfl4, tf4, hrl4, tr4, hd4⟩ := hM
      have fin : f ∈ cs' := by
        rcases hcs with ⟨rfl, m⟩ | ⟨rfl, _⟩
        · exact m
        · exact List.mem_append_right _ (List.mem_singleton_self _)
      have ecs : csOf n.rows (ss.take (i + 1)) = cs' := by
        rw [stp]
        rcases hcs with ⟨rfl, m⟩ | ⟨rfl, m⟩
        · rw [if_pos m]
        · rw [if_neg m]
      have get2 := DGet.k (k := Sum.inl (f : Int)) hd4
      rw [cvK_get, if_pos fin] at get2
      refine ⟨_, rfl, _, rfl, d, _, rfl, get2, _, rfl, (by show 3 ≤ sizeLine; decide), fun t ht => ?_⟩
      generalize hG7 : upd _ t _ = G7
      obtain ⟨s7, h_t⟩ := upd_gen hG7 ht
      have hrl7 := s7 _ _ hrl4
      refine ⟨_, rfl, _, rfl, rl2, _, _, j, rfl, rfl, hrl7, ixN_nat (by omega), _, _, _, _, fv', _, rfl, fun x o e => ?_, ?_, ?_, ?_, upd_same, ?_, ?_⟩
      · rw [upd_ne (ne_of_none e r0)]
        exact s7 _ _ (sG4 _ _ e)
      · rw [upd_ne nlr]
        exact s7 _ _ hl4
      · rw [upd_ne nfr]
        exact s7 _ _ hfl4
      · rw [ecs]
        exact (tf4.same s7).butL SameBut.upd hrl7
      · rw [ecs, stt, ← frRows_set er nj ck.has hcs, List.map_set]
        exact ((tr4.same s7).set h_t j).but SameBut.upd hrl7
      · rw [upd_ne ndr, ecs]
        exact s7 _ _ hd4
    obtain ⟨y5, y6, y7, y8, fv, rv, rfl, sG, hl, hfl, tf, hrl, tr, hdd⟩ := hP
    rw [List.length_map, List.length_map, List.take_length] at tf tr hdd
    refine ⟨_, rfl, p, dx, _, rfl, sG _ _ b.ob, nl_no (by decide +kernel), p, n, rfl, hn.same sG, fun hl2 hv2 G2 hh2 s2 h_hl2 hhh => ?_⟩
    refine ⟨hl2, rfl, ⟨_, SqL.of h_hl2⟩, fun D hD => ?_⟩
    have lh := hhh.len
    rw [List.length_map] at lh
    have h6 := ok.h2
    have lrv := tr.rlen
    rw [fr_len] at lrv
    refine lc_it (walk_list (K := K) (a := hl2) (xs := hv2)) (fun i G3 => Same G2 G3 ∧ ∃ ws, G3 D = some (.lst ws) ∧ TsAt G3 ws (((n.freed ss).holds.take i).map Hold.vs)) ⟨same_new hD, [], upd_same, .nil⟩ (fun i G3 _ hP => SqL.of (hP.1 _ _ h_hl2)) (fun i v G3 G' hi hP hY => ?_) (fun G3 hP => ?_)
    · obtain ⟨s3, ws, hd, tw⟩ := hP
      obtain ⟨rfl, hx⟩ := hY
      obtain ⟨hp, xs, rfl, ex, hhp⟩ := hhh.get hx
      rw [List.getElem?_map] at ex
      obtain ⟨hh, eh, rfl⟩ := Option.map_eq_some_iff.mp ex
      obtain ⟨g, eg, hg, _, _, a, ea⟩ := freed_hold ok hks (List.mem_of_getElem? eh)
      obtain ⟨rp, erp, hrp⟩ := tr.at (i := hh.l) (xs := (Row.keep g a).vs) (by rw [List.getElem?_map]; exact congrArg (Option.map Row.vs) ea)
      have hrl3 := s3 _ _ (s2 _ _ hrl)
      have lw := tw.len
      rw [List.length_map, List.length_take] at lw
      refine ⟨hp, _, rfl, SqT.of (s3 _ _ hhp), rfl, _, _, rfl, _, _, rfl, _, _, rfl, rfl, rfl, _, rfl, _, rfl, rl2, _, _, .ref rp, rfl, rfl, SqL.of hrl3, atI_nat erp, rp, _, 1, .int g, rfl, rfl, SqT.of (s3 _ _ (s2 _ _ hrp)), a1, _, rfl, _, rfl, (by show 3 ≤ sizeLine; decide), fun t ht => ?_⟩
      generalize hG7 : upd _ t _ = G7
      obtain ⟨s7, h_t⟩ := upd_gen hG7 ht
      have hd7 := s7 _ _ hd
      have e2 : (n.freed ss).holds[i]? = some ⟨g, hh.s, hh.l⟩ := by
        show (n.holds.map _)[i]? = _
        rw [List.getElem?_map, eh]
        show some (Hold.mk _ _ _) = _
        rw [eg]
      refine ⟨ws, hd7, sl_lt (by omega), fun b o e => ?_, ws ++ [.ref t], upd_same, ?_⟩
      · rw [upd_ne (ne_of_none e hD)]
        exact s7 _ _ (s3 _ _ e)
      · rw [List.take_add_one, e2, Option.toList_some, List.map_append]
        exact TsAt.push hd7 (tw.same s7) h_t
    obtain ⟨s3, ws, hd, tw⟩ := hP
    have lfh : (n.freed ss).holds.length = n.holds.length := List.length_map ..
    rw [lh, ← lfh, List.take_length] at tw
    have S3 := sG.trans (s2.trans s3)
    have T3 := s2.trans s3
    refine ⟨_, rfl, _, rfl, p, dx, _, rfl, S3 _ _ b.ob, nl_no (by decide +kernel), p, n, rfl, hn.same S3, _, rfl, _, rfl, _, rfl, p, dx, _, rfl, S3 _ _ b.ob, nl_no (by decide +kernel), p, n, rfl, hn.same S3, fun x dx2 hx0 hdx ne => ?_⟩
    have sM := make_same (C := CN) hx0 hdx ne
    have lF : (n.freed ss).fs.length = n.fs.length + (csOf n.rows ss).length := by
      show (n.fs ++ _).length = _
      rw [List.length_append, List.length_map]
    have f1 := ok.f1
    have few := freed_few (ss := ss) ok hks
    refine ⟨x, dx2, fl2, rl2, D, n.freed ss, fv, rv, ws, rfl, upd_same, sM _ _ (T3 _ _ hfl), (tf.same T3).same sM, sM _ _ (T3 _ _ hrl), (tr.same T3).same sM, sM _ _ hd, tw.same sM, fun h12 => freed_ok ok hks (by omega), by omega, fun h12 H2 hN fr1 => ⟨rfl, ?_⟩, fun h12 d2 H2 s8 hd2 hbn => ?_⟩
    · exact q (by omega) x H2 (fun b o e => fr1 b o (ne_of_none (S3 _ _ e) hx0) (sM _ _ (S3 _ _ e))) hN
    · exact qe (by omega) d2 H2 ((S3.trans sM).trans s8) ((S3.trans sM).free hd2) hbn
end
end E1

namespace E1
open PySem PySem.Spec PyProof.Rows L2
theorem in_nats {m : Nat} : ∀ {l : List Nat}, m ∈ l → inV (.int (m : Int)) (l.map nI) = true
  | [], h => by cases h
  | a :: l, h => by
    show (eqV (nI a) (.int (m : Int)) || inV (.int (m : Int)) (l.map nI)) = true
    rcases List.mem_cons.mp h with e | h
    · subst e
      rw [show eqV (nI m) (.int (m : Int)) = true from by show decide ((m : Int) = (m : Int)) = true; exact decide_eq_true rfl]
      rfl
    · rw [in_nats h, Bool.or_true]
theorem flat_nats (l : List Nat) : (l.map nI).all flatV = true := by
  rw [List.all_map, List.all_eq_true]
  exact fun _ _ => rfl

theorem inV_nats (m : Nat) : ∀ l : List Nat, inV (.int (m : Int)) (l.map nI) = decide (m ∈ l)
  | [] => rfl
  | a :: l => by
    show (eqV (nI a) (.int (m : Int)) || inV (.int (m : Int)) (l.map nI)) = _
    rw [inV_nats m l]
    have e : eqV (nI a) (.int (m : Int)) = decide (m = a) := by
      show decide ((a : Int) = (m : Int)) = _
      exact decide_eq_decide.mpr (by omega)
    rw [e, ← Bool.decide_or]
    exact decide_eq_decide.mpr List.mem_cons.symm
/-- of rising ones, those below a number more -/
theorem filt_next : ∀ (ss : List Nat) (i : Nat), ss.Pairwise (· < ·) → ss.filter (fun x => decide (x < i + 1)) = ss.filter (fun x => decide (x < i)) ++ (if i ∈ ss then [i] else [])
  | [], i, _ => by simp
  | a :: t, i, pw => by
    obtain ⟨h1, h2⟩ := List.pairwise_cons.mp pw
    have ih := filt_next t i h2
    rcases Nat.lt_trichotomy a i with h | h | h
    · rw [List.filter_cons_of_pos (by rw [decide_eq_true_eq]; omega), List.filter_cons_of_pos (by rw [decide_eq_true_eq]; exact h), ih, List.cons_append]
      have : (i ∈ a :: t) ↔ i ∈ t := by
        rw [List.mem_cons]
        exact ⟨fun z => z.resolve_left (by omega), .inr⟩
      simp only [this]
    · subst h
      have e1 : t.filter (fun x => decide (x < a)) = [] := List.filter_eq_nil_iff.mpr fun x hx => by
        have := h1 x hx
        rw [decide_eq_true_eq]
        omega
      have e2 : t.filter (fun x => decide (x < a + 1)) = [] := List.filter_eq_nil_iff.mpr fun x hx => by
        have := h1 x hx
        rw [decide_eq_true_eq]
        omega
      rw [List.filter_cons_of_pos (by rw [decide_eq_true_eq]; omega), List.filter_cons_of_neg (by rw [decide_eq_true_eq]; omega), e1, e2, if_pos List.mem_cons_self]
      rfl
    · have e1 : ∀ k, k ≤ i + 1 → (a :: t).filter (fun x => decide (x < k)) = [] := fun k hk => List.filter_eq_nil_iff.mpr fun x hx => by
        rw [decide_eq_true_eq]
        rcases List.mem_cons.mp hx with rfl | hx
        · omega
        · have := h1 x hx
          omega
      have no : i ∉ a :: t := fun z => by
        rcases List.mem_cons.mp z with z | z
        · omega
        · have := h1 i z
          omega
      rw [e1 _ (by omega), e1 _ (by omega), if_neg no]
      rfl
theorem csOf_pre (rows : List Row) (a : List Nat) : ∀ b : List Nat, ∃ t, csOf rows (a ++ b) = csOf rows a ++ t := by
  have key : ∀ (b acc : List Nat), ∃ t, b.foldl (fun (cs : List Nat) (i : Nat) => match rows[i]? with
      | some (Row.keep f _) => if f ∈ cs then cs else cs ++ [f]
      | _ => cs) acc = acc ++ t := by
    intro b
    induction b with
    | nil => exact fun acc => ⟨[], (List.append_nil _).symm⟩
    | cons i b ih =>
      intro acc
      rw [List.foldl_cons]
      obtain ⟨t, e⟩ := ih (match rows[i]? with
        | some (Row.keep f _) => if f ∈ acc then acc else acc ++ [f]
        | _ => acc)
      rw [e]
      split
      · split
        · exact ⟨t, rfl⟩
        · exact ⟨_, List.append_assoc ..⟩
      · exact ⟨t, rfl⟩
  intro b
  obtain ⟨t, e⟩ := key b (csOf rows a)
  refine ⟨t, ?_⟩
  rw [← e]
  unfold csOf
  rw [List.foldl_append] <;> rfl
theorem filt_split (ss : List Nat) (i : Nat) : ss.Pairwise (· < ·) → ss = ss.filter (fun x => decide (x < i)) ++ ss.filter (fun x => !decide (x < i)) := by
  induction ss with
  | nil => exact fun _ => rfl
  | cons a t ih =>
    intro pw
    obtain ⟨h1, h2⟩ := List.pairwise_cons.mp pw
    by_cases h : a < i
    · rw [List.filter_cons_of_pos (by rw [decide_eq_true h]), List.filter_cons_of_neg (by rw [decide_eq_true h]; decide), List.cons_append, ← ih h2]
    · have e1 : (a :: t).filter (fun x => decide (x < i)) = [] := List.filter_eq_nil_iff.mpr fun x hx => by
        rw [decide_eq_true_eq]
        rcases List.mem_cons.mp hx with rfl | hx
        · exact h
        · have := h1 x hx
          omega
      have e2 : (a :: t).filter (fun x => !decide (x < i)) = a :: t := List.filter_eq_self.mpr fun x hx => by
        have : ¬ x < i := by
          rcases List.mem_cons.mp hx with rfl | hx
          · exact h
          · have := h1 x hx
            omega
        rw [decide_eq_false this]
        rfl
      rw [e1, e2]
      rfl
theorem idx_part {rows : List Row} {ss : List Nat} (pw : ss.Pairwise (· < ·)) (i : Nat) {f : Nat} (hf : f ∈ csOf rows (ss.filter fun x => decide (x < i))) : (csOf rows ss).idxOf f = (csOf rows (ss.filter fun x => decide (x < i))).idxOf f := by
  obtain ⟨t, e⟩ := csOf_pre rows (ss.filter fun x => decide (x < i)) (ss.filter fun x => !decide (x < i))
  rw [← filt_split ss i pw] at e
  rw [e, List.idxOf_append, if_pos hf]
theorem filt_all {ss : List Nat} {N : Nat} (h : ∀ x ∈ ss, x < N) : ss.filter (fun x => decide (x < N)) = ss := List.filter_eq_self.mpr fun x hx => decide_eq_true (h x hx)
def sp40Due : Sp := fun vs H Q _ => ∃ (hp sl : Addr) (n : NetP) (ks ss : List Nat), vs = [.ref hp, .ref sl] ∧ PartsX H hp n ∧ NetOk n ∧ H sl = some (.lst (ks.map nI)) ∧ (∀ k ∈ ks, kpAt n.rows k = true) ∧ ss.Pairwise (· < ·) ∧ (∀ k, k ∈ ss ↔ k ∈ ks) ∧ ∀ t H', Same H H' → PartsX H' t (n.freed ss) → Q (.ref t) H'
theorem free_vs (f : FormP) : [V.non] ++ cutV f.vs (some 1) none = f.free.vs := by
  unfold cutV
  rfl
theorem TsAt.but8 {H H' : Hp} {vs : List V} {xss : List (List V)} (h : TsAt H vs xss) (s : ∀ (q : Addr) (o : HO), H q = some o → (∀ u, o ≠ .dK u) → H' q = some o) : TsAt H' vs xss := h.mono fun q xs e => s q _ e (fun _ z => nomatch z)
section
variable {P : Program} {w : World} {K : PySem.W.Frag} {mg : Str → Option Value} {base : Heap}
theorem sc__law_due : FnScope ["_law_net_here", "_law_some", "_law_forms", "_law_became", "_law_rows", "_law_at", "_law_row", "_law_holds", "_law_form_here", "_law_word_here"] ["_law_net_here", "_law_some"] (defScope s__law_due) := ⟨rfl, rfl, rfl, by decide +kernel, rfl, by decide +kernel, by decide +kernel⟩
theorem ok__law_due {f : Addr} {fd : FuncData} {k0 : Nat} (F : Fun K "_law_due" "_law_due" s__law_due f fd) (z : Zs mg) : FnOk P w K mg base CX0 (k0 + 2) f fd ["_law_net_here", "_law_some"] sp40Due := by
  refine F.ok sc__law_due (fun vs H Q E h => ?_) (fun cdv A outer s H vs Q E hr h => ?_)
  · obtain ⟨hp, sl, n, ks, ss, rfl, _⟩ := h
    rfl
  · obtain ⟨hp, sl, n, ks, ss, rfl, hpp, ok, hsl, hk, pw, mem, q⟩ := h
    refine ⟨_, (pss_cons (ps_set (i := 2) sc__law_due.nd rfl (.inl rfl) (pe_callTy call_list_of (by rfl) z.list (by decide +kernel) (pa_cons (pe_ix ix_tup (pv 0) pe_int (fun _ _ => rfl)) pa_nil)))
      (pss_cons (ps_set (i := 3) sc__law_due.nd rfl (.inl rfl) pe_dnewK)
      (pss_cons (ps_set (i := 4) sc__law_due.nd rfl (.inr rfl) (pe_lst pa_nil))
      (pss_cons (ps_for PassesOwn.never rfl (pi_enum (by rfl) z.enumerate (pa_cons (pe_ix ix_tup (pv 0) pe_int (fun _ _ => rfl)) pa_nil)) (pg_tup (by rfl) (pgs_cons (pg_name (i := 5) sc__law_due.nd rfl (.inl rfl)) (pgs_cons (pg_name (i := 6) sc__law_due.nd rfl (.inl rfl)) pgs_nil))) (pss_one (ps_if (PW.pt (pw_and (pt_cmpR op_eq (pe_ix ix_tup (pv 6) pe_int (fun _ _ => rfl)) pe_str (nomark _)) (pw_and1 (pt_cmpR op_in_seq (pv 5) (pv 1) (by rfl))))) (C8.pss_cut (ps_if (pt_cmp (pc_dnotin (hu_of hr) (pe_ix ix_tup (pv 6) pe_int (fun _ _ => rfl)) (pv 3))) (pss_cons (ps_dput (hu_of hr) (pv 3) (pe_ix ix_tup (pv 6) pe_int (fun _ _ => rfl)) (pe_callB call_len_seq (by rfl) z.len PySem.boot_len (pa_cons (pv 2) pa_nil)) rfl)
      (pss_one (ps_expr (pe_bm PySem.F.plainAttrs_list PySem.F.slot_list_append PySem.F.type_list_append mt_append (pv 2) (pa_cons (pe_op op_catT (pe_tup (pa_cons pe_non pa_nil)) (pe_slice sl_tupA (pe_ix ix_list (pv 2) (pe_ix ix_tup (pv 6) pe_int (fun _ _ => rfl)) (fun _ _ => rfl)) (po_some pe_int) po_none)) pa_nil))))) pss_nil)
      (pss_one (ps_expr (pe_bm PySem.F.plainAttrs_list PySem.F.slot_list_append PySem.F.type_list_append mt_append (pv 4) (pa_cons (pe_tup (pa_cons pe_str (pa_cons (pe_dget (hu_of hr) (pv 3) (pe_ix ix_tup (pv 6) pe_int (fun _ _ => rfl)) (fun _ _ => rfl)) (pa_cons (pe_ix ix_tup (pv 6) pe_int (fun _ _ => rfl)) pa_nil)))) pa_nil))))) (pss_one (ps_expr (pe_bm PySem.F.plainAttrs_list PySem.F.slot_list_append PySem.F.type_list_append mt_append (pv 4) (pa_cons (pv 6) pa_nil)))))))
      (pss_cons (ps_setLc (i := 7) (own := [("_law_form_here", 8), ("_law_word_here", 9), ("_law_at", 5)]) (g := gTup K 3 (gCons (gName 8) (gCons (gName 9) (gCons (gName 5) gNil)))) (tt := tYes) (te := (tTup (tCons (tOp (rIxT K) (tOp (rIxL K) (tVar 4) (tVar 5)) (tC (.int 1))) (tCons (tVar 9) (tCons (tVar 5) tNil))))) (by rfl) sc__law_due.nd rfl rfl (sw_true rfl rfl rfl (by decide +kernel)) (pi_list (pe_ix ix_tup (pv 0) pe_int (fun _ _ => rfl))) (blkOk_by (own := [("_law_form_here", 8), ("_law_word_here", 9), ("_law_at", 5)]) (N := ["_law_net_here", "_law_some", "_law_forms", "_law_became", "_law_rows", "_law_at", "_law_row", "_law_holds", "_law_form_here", "_law_word_here"]) (sc := defScope s__law_due) (by decide +kernel)) (fun _ _ _ _ _ => by exact (pg_tup (by rfl) (pgs_cons (pg_name (i := 8) sc__law_due.nd rfl (.inl rfl)) (pgs_cons (pg_name (i := 9) sc__law_due.nd rfl (.inl rfl)) (pgs_cons (pg_name (i := 5) sc__law_due.nd rfl (.inl rfl)) pgs_nil))))) (fun _ _ _ _ _ => by exact pts_nil) (fun _ _ _ _ _ => by exact (pe_tup (pa_cons (pe_ix ix_tup (pe_ix ix_list (pv 4) (pv 5) (fun _ _ => rfl)) pe_int (fun _ _ => rfl)) (pa_cons (pv 9) (pa_cons (pv 5) pa_nil))))))
      (pss_one (ps_ret (pe_tup (pa_cons (pv 2) (pa_cons (pe_ix ix_tup (pv 0) pe_int (fun _ _ => rfl)) (pa_cons (pv 4) (pa_cons (pv 7) (pa_cons (pe_ix ix_tup (pv 0) pe_int (fun _ _ => rfl)) pa_nil))))))))))))), ?_⟩
    obtain ⟨fa, ra, ha, tl0, hhp, ⟨fv0, hfa, tf0⟩, ⟨rv0, hra, tr0⟩, ⟨hv0, hha, th0⟩⟩ := id hpp
    have hks : ∀ i ∈ ss, kpAt n.rows i = true := fun i hi => hk i ((mem i).mp hi)
    have r60 := ok.r2
    have f12 := ok.f2
    have lr0 := tr0.len
    rw [List.length_map] at lr0
    refine ⟨_, rfl, hp, _, 0, .ref fa, rfl, rfl, SqT.of hhp, a0, _, _, rfl, .inl (SqL.of hfa), fun fl hfl0 => ?_⟩
    generalize hG1 : upd _ fl _ = G1
    obtain ⟨s1, h_fl⟩ := upd_gen hG1 hfl0
    have fl0 : H fl = none := hfl0
    refine fun d hd0 => ?_
    generalize hG2 : upd _ d _ = G2
    obtain ⟨s2, h_d⟩ := upd_gen hG2 hd0
    refine ⟨(by show 0 ≤ sizeLine; decide), fun rl hrl0 => ?_⟩
    generalize hG3 : upd _ rl _ = G3
    obtain ⟨s3, h_rl⟩ := upd_gen hG3 hrl0
    have S3 := (s1.trans s2).trans s3
    have h_fl3 := s3 _ _ (s2 _ _ h_fl)
    have h_d3 := s3 _ _ h_d
    have ndf : d ≠ fl := ne_of h_d3 h_fl3 (fun z => nomatch z)
    have ndr : d ≠ rl := ne_of h_d3 h_rl (fun z => nomatch z)
    have nfr : fl ≠ rl := ne_of_none (s2 _ _ h_fl) hrl0
    have d0 : H d = none := s1.free hd0
    have r0 : H rl = none := (s1.trans s2).free hrl0
    have tf3 := tf0.same S3
    clear hG1 hG2 hG3 s1 s2 s3 h_fl h_d hrl0 hd0
    refine ⟨_, rfl, hp, _, 2, .ref ra, rfl, rfl, SqT.of (S3 _ _ hhp), a2, ra, _, rfl, SqL.of (S3 _ _ hra), ?_⟩
    refine for_it (walk_enum (K := K) (a := ra) (xs := rv0)) (fun i σ G => ∃ (y5 y6 : Option V) (fv rv : List V), σ = [some (.ref hp), some (.ref sl), some (.ref fl), some (.ref d), some (.ref rl), y5, y6, none, none, none] ∧ Same H G ∧ G fl = some (.lst fv) ∧ TsAt G fv ((n.fs ++ (csOf n.rows (ss.filter fun x => decide (x < i))).map fun f => (frm n.fs f).free).map FormP.vs) ∧ G d = some (.dK (cvK n.fs.length (csOf n.rows (ss.filter fun x => decide (x < i))))) ∧ G rl = some (.lst rv) ∧ TsAt G rv (((frRows n.fs.length (csOf n.rows ss) ss n.rows).take i).map Row.vs)) ⟨none, none, fv0, [], rfl, S3, h_fl3, ?_, ?_, h_rl, .nil⟩ (fun i σ G _ hP => by obtain ⟨y5, y6, fv, rv, rfl, sG, _⟩ := hP; exact SqL.of (sG _ _ hra)) (fun i v σ G G' hi hP hY => ?_) (fun σ G hP => ?_)
    · have e0 : ss.filter (fun x => decide (x < 0)) = [] := List.filter_eq_nil_iff.mpr fun x _ => by rw [decide_eq_true_eq]; omega
      rw [e0]
      show TsAt G3 fv0 ((n.fs ++ []).map FormP.vs)
      rw [List.append_nil]
      exact tf3
    · have e0 : ss.filter (fun x => decide (x < 0)) = [] := List.filter_eq_nil_iff.mpr fun x _ => by rw [decide_eq_true_eq]; omega
      rw [e0]
      exact h_d3
    · obtain ⟨y5, y6, fv, rv, rfl, sG, hfl, tf, hdd, hrl, tr⟩ := hP
      obtain ⟨Tp, u, v', rfl, nT, rfl, e1, e2⟩ := hY
      cases e1
      obtain ⟨rp, xs, rfl, ex, hrp0⟩ := tr0.get e2
      rw [List.getElem?_map] at ex
      obtain ⟨r, er, rfl⟩ := Option.map_eq_some_iff.mp ex
      have sN := same_new (o := .tup [.int (i : Nat), .ref rp]) nT
      generalize hGn : upd G Tp _ = G' at *
      have S := sG.trans sN
      have hrp := S _ _ hrp0
      have hTp : G' Tp = some (.tup [.int (i : Nat), .ref rp]) := by rw [← hGn]; exact upd_same
      replace hfl := sN _ _ hfl
      replace tf := tf.same sN
      replace hdd := sN _ _ hdd
      replace hrl := sN _ _ hrl
      replace tr := tr.same sN
      have il := (List.getElem?_eq_some_iff.mp er).1
      have ltr := tr.rlen
      rw [List.length_take, fr_len] at ltr
      have nxt := filt_next ss i pw
      have efr := fr_get (L := n.fs.length) (cs := csOf n.rows ss) (ss := ss) er
      have tak : (frRows n.fs.length (csOf n.rows ss) ss n.rows).take (i + 1) = (frRows n.fs.length (csOf n.rows ss) ss n.rows).take i ++ [frRow n.fs.length (csOf n.rows ss) ss i r] := by rw [List.take_add_one, efr, Option.toList_some]
      have ELSE : ∀ (H4 : Hp), H4 = G' → (i ∉ ss) → frRow n.fs.length (csOf n.rows ss) ss i r = r → ∃ (y5 y6 : Option V) (fv rv' : List V), [some (V.ref hp), some (.ref sl), some (.ref fl), some (.ref d), some (.ref rl), some (.int (i : Nat)), some (.ref rp), none, none, none] = [some (.ref hp), some (.ref sl), some (.ref fl), some (.ref d), some (.ref rl), y5, y6, none, none, none] ∧ Same H (upd H4 rl (.lst (rv ++ [.ref rp]))) ∧ (upd H4 rl (.lst (rv ++ [.ref rp]))) fl = some (.lst fv) ∧ TsAt (upd H4 rl (.lst (rv ++ [.ref rp]))) fv ((n.fs ++ (csOf n.rows (ss.filter fun x => decide (x < i + 1))).map fun f => (frm n.fs f).free).map FormP.vs) ∧ (upd H4 rl (.lst (rv ++ [.ref rp]))) d = some (.dK (cvK n.fs.length (csOf n.rows (ss.filter fun x => decide (x < i + 1))))) ∧ (upd H4 rl (.lst (rv ++ [.ref rp]))) rl = some (.lst rv') ∧ TsAt (upd H4 rl (.lst (rv ++ [.ref rp]))) rv' (((frRows n.fs.length (csOf n.rows ss) ss n.rows).take (i + 1)).map Row.vs) := fun H4 e4 ni fe => by
        subst e4
        rw [nxt, if_neg ni, List.append_nil, tak, fe]
        refine ⟨_, _, fv, _, rfl, fun x o e => ?_, ?_, tf.but SameBut.upd hrl, ?_, upd_same, ?_⟩
        · rw [upd_ne (ne_of_none e r0)]
          exact S _ _ e
        · rw [upd_ne nfr]
          exact hfl
        · rw [upd_ne ndr]
          exact hdd
        · rw [List.map_append]
          refine (tr.but SameBut.upd hrl).app (.cons ?_ .nil)
          rw [upd_ne (ne_of hrp hrl (fun z => nomatch z))]
          exact hrp
      refine ⟨Tp, _, rfl, SqT.of hTp, rfl, _, _, rfl, _, _, rfl, rfl, ?_⟩
      refine ⟨_, rfl, rp, _, 0, .str r.kd.s, rfl, rfl, SqT.of hrp, atI_nat (j := 0) r.vs0, rfl, _, rfl, ?_⟩
      by_cases kq : r.kd = .keep
      · refine iteC (d := true) (by rw [kq]; exact decide_eq_true rfl) (iteT ?_)
        obtain ⟨f, a, rfl⟩ : ∃ f a, r = .keep f a := by
          cases r with
          | keep f a => exact ⟨f, a, rfl⟩
          | _ => cases kq
        have hf := (ok.ro i _ er).1
        refine ⟨_, rfl, _, rfl, sl, _, rfl, .inl (SqL.of (S _ _ hsl)), rfl, flat_nats _, _, rfl, ?_⟩
        rw [show (if false = true then !inV (V.int (i : Nat)) (ks.map nI) else inV (V.int (i : Nat)) (ks.map nI)) = decide (i ∈ ks) from inV_nats i ks]
        by_cases ik : i ∈ ks
        · have is : i ∈ ss := (mem i).mpr ik
          refine iteC (d := true) (decide_eq_true ik) (iteT ?_)
          rw [if_pos is] at nxt
          have stp := csOf_snoc n.rows (ss.filter fun x => decide (x < i)) er
          rw [← nxt] at stp
          have fin : f ∈ csOf n.rows (ss.filter fun x => decide (x < i + 1)) := by
            rw [stp]
            split
            · assumption
            · exact List.mem_append_right _ (List.mem_singleton_self _)
          have idx := idx_part pw (i + 1) fin
          have ck := csOk n.rows _ (ss.filter fun x => decide (x < i)) rfl fun x hx => hks x (List.mem_filter.mp hx).1
          have c12 : (csOf n.rows (ss.filter fun x => decide (x < i))).length ≤ n.fs.length := nodup_few _ _ ck.nd fun g hg => by
            obtain ⟨x, y, _, e⟩ := ck.mem g hg
            exact (ok.ro x _ e).1
          have lfv := tf.len
          rw [List.length_map, List.length_append, List.length_map] at lfv
          have get1 := DGet.k (k := Sum.inl (f : Int)) hdd
          rw [cvK_get] at get1
          generalize csOf n.rows (ss.filter fun x => decide (x < i)) = cs at *
          generalize csOf n.rows (ss.filter fun x => decide (x < i + 1)) = cs' at *
          refine ⟨fun σ G4 => ∃ (fv' : List V), σ = [some (.ref hp), some (.ref sl), some (.ref fl), some (.ref d), some (.ref rl), some (.int (i : Nat)), some (.ref rp), none, none, none] ∧ Same H G4 ∧ G4 fl = some (.lst fv') ∧ TsAt G4 fv' ((n.fs ++ cs'.map fun f => (frm n.fs f).free).map FormP.vs) ∧ G4 rl = some (.lst rv) ∧ TsAt G4 rv (((frRows n.fs.length (csOf n.rows ss) ss n.rows).take i).map Row.vs) ∧ G4 d = some (.dK (cvK n.fs.length cs')), ?_, fun σ G4 hM => ?_⟩
          · refine ⟨_, rfl, rp, _, 1, .int f, rfl, rfl, SqT.of hrp, a1, _, rfl, d, _, rfl, get1, _, rfl, ?_⟩
            by_cases c : f ∈ cs
            · rw [if_pos c] at stp ⊢
              subst stp
              exact iteF ⟨fv, rfl, S, hfl, tf, hrl, tr, hdd⟩
            · rw [if_neg c] at stp ⊢
              subst stp
              refine iteT ?_
              refine ⟨_, rfl, fl, _, rfl, .inl (SqL.of hfl), _, rfl, _, rfl, rp, _, 1, .int f, rfl, rfl, SqT.of hrp, a1, d, _, rfl, DPut.k (k := Sum.inl (f : Int)) hdd (sl_lt (by rw [cvK_len]; omega)), ?_⟩
              have ep : putK (cvK n.fs.length cs) (Sum.inl (f : Int)) (V.int (fv.length : Int)) = cvK n.fs.length (cs ++ [f]) := by
                rw [putK_new _ (by rw [cvK_get, if_neg c]), cvK_snoc, lfv]
              rw [ep]
              generalize hG7 : upd _ d _ = G7
              obtain ⟨s7, h_d7⟩ := upd_but hG7
              have noD : ∀ (q : Addr) (o : HO), G' q = some o → (∀ u, o ≠ .dK u) → G7 q = some o := fun q o e no => s7 _ _ (fun z => no _ (by rw [z, hdd] at e; exact (Option.some.inj e).symm)) e
              have hfl7 := noD _ _ hfl (fun _ z => nomatch z)
              have hrl7 := noD _ _ hrl (fun _ z => nomatch z)
              have hrp7 := noD _ _ hrp (fun _ z => nomatch z)
              have tf7 := tf.but8 noD
              have tr7 := tr.but8 noD
              have S7 : Same H G7 := fun x o e => s7 _ _ (ne_of_none e d0) (S _ _ e)
              obtain ⟨q1, eq1, hq1⟩ := tf7.at (i := f) (xs := (frm n.fs f).vs) (by rw [List.getElem?_map, List.getElem?_append_left hf, frm_get hf]; rfl)
              refine ⟨_, rfl, .inl ⟨rfl, _, SqL.of hfl7⟩, (by show 1 ≤ sizeLine; decide), fun t1 ht1 => ?_⟩
              generalize hG8 : upd _ t1 _ = G8
              obtain ⟨s8, h_t1⟩ := upd_gen hG8 ht1
              refine ⟨_, rfl, _, rfl, rp, _, 1, .int f, rfl, rfl, SqT.of (s8 _ _ hrp7), a1, fl, _, _, .ref q1, rfl, rfl, SqL.of (s8 _ _ hfl7), atI_nat eq1, _, rfl, q1, _, rfl, SqT.of (s8 _ _ hq1), fun z => ?_, fun _ c1 hc1 => ?_⟩
              · exact absurd z.1 (by show ¬ (1 = 0); decide)
              generalize hG9 : upd _ c1 _ = G9
              obtain ⟨s9, h_c1⟩ := upd_gen hG9 hc1
              refine ⟨_, _, _, _, rfl, rfl, SqT.of (s9 _ _ h_t1), SqT.of h_c1, (fun z => nomatch z), (by show 1 + 3 ≤ sizeLine; decide), (fun z => nomatch z), fun _ p hp2 => ?_⟩
              generalize hGa : upd _ p _ = Ga
              obtain ⟨sa, h_p⟩ := upd_gen hGa hp2
              rw [free_vs] at h_p
              have SS := s8.trans (s9.trans sa)
              have hflA := SS _ _ hfl7
              refine ⟨fl, _, _, rfl, rfl, hflA, sl_lt (by omega), _, rfl, fun x o e => ?_, upd_same, ?_, ?_, ?_, ?_⟩
              · rw [upd_ne (ne_of_none e fl0)]
                exact SS _ _ (S7 _ _ e)
              · rw [show ((n.fs ++ (cs ++ [f]).map fun f => (frm n.fs f).free).map FormP.vs) = ((n.fs ++ cs.map fun f => (frm n.fs f).free).map FormP.vs) ++ [(frm n.fs f).free.vs] by simp only [List.map_append, List.map_cons, List.map_nil, List.append_assoc]]
                exact ((tf7.same SS).but SameBut.upd hflA).app (.cons (by rw [upd_ne (ne_of h_p hflA (fun z => nomatch z))]; exact h_p) .nil)
              · rw [upd_ne nfr.symm]
                exact SS _ _ hrl7
              · exact (tr7.same SS).but SameBut.upd hflA
              · rw [upd_ne ndf]
                exact SS _ _ h_d7
          obtain ⟨fv', rfl, S4, hfl4, tf4, hrl4, tr4, hd4⟩ := hM
          have get2 := DGet.k (k := Sum.inl (f : Int)) hd4
          rw [cvK_get, if_pos fin] at get2
          have hrp4 := S4 _ _ hrp0
          refine ⟨_, rfl, .inl ⟨rfl, _, SqL.of hrl4⟩, _, rfl, _, rfl, rp, _, 1, .int f, rfl, rfl, SqT.of hrp4, a1, d, _, rfl, get2, _, rfl, rp, _, 2, .int a, rfl, rfl, SqT.of hrp4, a2, (by show 3 ≤ sizeLine; decide), fun t ht => ?_⟩
          generalize hG7 : upd _ t _ = G7
          obtain ⟨s7, h_t⟩ := upd_gen hG7 ht
          have hrl7 := s7 _ _ hrl4
          have fe : frRow n.fs.length (csOf n.rows ss) ss i (.keep f a) = .keep (n.fs.length + cs'.idxOf f) a := by
            show (if i ∈ ss then Row.keep (n.fs.length + (csOf n.rows ss).idxOf f) a else .keep f a) = _
            rw [if_pos is, idx]
          rw [tak, fe]
          refine ⟨rl, _, _, rfl, rfl, hrl7, sl_lt (by omega), _, _, fv', _, rfl, fun x o e => ?_, ?_, (tf4.same s7).but SameBut.upd hrl7, ?_, upd_same, ?_⟩
          · rw [upd_ne (ne_of_none e r0)]
            exact s7 _ _ (S4 _ _ e)
          · rw [upd_ne nfr]
            exact s7 _ _ hfl4
          · rw [upd_ne ndr]
            exact s7 _ _ hd4
          · rw [List.map_append]
            refine ((tr4.same s7).but SameBut.upd hrl7).app (.cons ?_ .nil)
            rw [upd_ne (ne_of h_t hrl7 (fun z => nomatch z))]
            exact h_t
        · have ni : i ∉ ss := fun z => ik ((mem i).mp z)
          refine iteC (d := false) (decide_eq_false ik) (iteF ?_)
          refine ⟨_, rfl, .inl ⟨rfl, _, SqL.of hrl⟩, _, rfl, rl, _, _, rfl, rfl, hrl, sl_lt (by omega), ELSE _ rfl ni ?_⟩
          show (if i ∈ ss then Row.keep _ a else .keep f a) = _
          rw [if_neg ni]
      · have ni : i ∉ ss := fun z => by
          have := hks i z
          rw [kp_of er] at this
          rw [kp_no kq] at this
          cases this
        refine iteC (d := false) (decide_eq_false (fun z => kd_ne _ _ kq (V.str.inj z))) (iteF ?_)
        refine ⟨_, rfl, .inl ⟨rfl, _, SqL.of hrl⟩, _, rfl, rl, _, _, rfl, rfl, hrl, sl_lt (by omega), ELSE _ rfl ni ?_⟩
        cases r with
        | keep f a => exact absurd rfl kq
        | _ => rfl
    obtain ⟨y5, y6, fv, rv, rfl, sG, hfl, tf, hdd, hrl, tr⟩ := hP
    have ssl : ∀ x ∈ ss, x < rv0.length := fun x hx => by
      obtain ⟨f, a, e⟩ := kp_some (hks x hx)
      have := (List.getElem?_eq_some_iff.mp e).1
      omega
    rw [filt_all ssl] at tf
    rw [List.take_of_length_le (by rw [fr_len]; omega)] at tr
    have lh0 := th0.len
    rw [List.length_map] at lh0
    have h6 := ok.h2
    have lrv := tr.rlen
    rw [fr_len] at lrv
    refine ⟨_, rfl, hp, _, 3, .ref ha, rfl, rfl, SqT.of (sG _ _ hhp), atI_nat (j := 3) rfl, ha, rfl, ⟨_, SqL.of (sG _ _ hha)⟩, fun D hD => ?_⟩
    refine lc_it (walk_list (K := K) (a := ha) (xs := hv0)) (fun i G3 => Same G G3 ∧ ∃ ws, G3 D = some (.lst ws) ∧ TsAt G3 ws (((n.freed ss).holds.take i).map Hold.vs)) ⟨same_new hD, [], upd_same, .nil⟩ (fun i G3 _ hP => SqL.of ((sG.trans hP.1) _ _ hha)) (fun i v G3 G' hi hP hY => ?_) (fun G3 hP => ?_)
    · obtain ⟨s3, ws, hd, tw⟩ := hP
      obtain ⟨rfl, hx⟩ := hY
      obtain ⟨hp2, xs, rfl, ex, hhp2⟩ := th0.get hx
      rw [List.getElem?_map] at ex
      obtain ⟨hh, eh, rfl⟩ := Option.map_eq_some_iff.mp ex
      obtain ⟨g, eg, hg, _, _, a, ea⟩ := freed_hold ok hks (List.mem_of_getElem? eh)
      obtain ⟨rp, erp, hrp⟩ := tr.at (i := hh.l) (xs := (Row.keep g a).vs) (by rw [List.getElem?_map]; exact congrArg (Option.map Row.vs) ea)
      have hrl3 := s3 _ _ hrl
      have lw := tw.len
      rw [List.length_map, List.length_take] at lw
      refine ⟨hp2, _, rfl, SqT.of (s3 _ _ (sG _ _ hhp2)), rfl, _, _, rfl, _, _, rfl, _, _, rfl, rfl, rfl, _, rfl, _, rfl, rl, _, _, .ref rp, rfl, rfl, SqL.of hrl3, atI_nat erp, rp, _, 1, .int g, rfl, rfl, SqT.of (s3 _ _ hrp), a1, _, rfl, _, rfl, (by show 3 ≤ sizeLine; decide), fun t ht => ?_⟩
      generalize hG7 : upd _ t _ = G7
      obtain ⟨s7, h_t⟩ := upd_gen hG7 ht
      have hd7 := s7 _ _ hd
      have e2 : (n.freed ss).holds[i]? = some ⟨g, hh.s, hh.l⟩ := by
        show (n.holds.map _)[i]? = _
        rw [List.getElem?_map, eh]
        show some (Hold.mk _ _ _) = _
        rw [eg]
      refine ⟨ws, hd7, sl_lt (by omega), fun b o e => ?_, ws ++ [.ref t], upd_same, ?_⟩
      · rw [upd_ne (ne_of_none e hD)]
        exact s7 _ _ (s3 _ _ e)
      · rw [List.take_add_one, e2, Option.toList_some, List.map_append]
        exact TsAt.push hd7 (tw.same s7) h_t
    obtain ⟨s3, ws, hd, tw⟩ := hP
    have lfh : (n.freed ss).holds.length = n.holds.length := List.length_map ..
    rw [lh0, ← lfh, List.take_length] at tw
    have SA := sG.trans s3
    refine ⟨_, rfl, _, rfl, hp, _, 1, .int n.en, rfl, rfl, SqT.of (SA _ _ hhp), a1, _, rfl, _, rfl, _, rfl, hp, _, 4, .int n.out, rfl, rfl, SqT.of (SA _ _ hhp), atI_nat (j := 4) rfl, (by show 5 ≤ sizeLine; decide), fun t ht => ?_⟩
    have sN := same_new (o := .tup [.ref fl, .int n.en, .ref rl, .ref D, .int n.out]) ht
    have ST := s3.trans sN
    exact q t _ (SA.trans sN) ⟨fl, rl, D, [], upd_same, ⟨fv, ST _ _ hfl, tf.same ST⟩, ⟨rv, ST _ _ hrl, tr.same ST⟩, ⟨ws, sN _ _ hd, tw.same sN⟩⟩
end
end E1

namespace E1
open PySem PySem.Spec PyProof.Rows L2

def spTold40 (C CN : Addr) : Sp := fun vs H Q _ => ∃ (p t : Addr) (n : NetP), vs = [.ref p, .ref t] ∧ NetAt C CN H p n ∧ PartsX H t n ∧ ∀ H', Same H H' → Q (.bl true) H'
theorem ndt {α : Type} [DecidableEq α] (x : α) : (!decide (x = x)) = false := by
  rw [decide_eq_true rfl]
  rfl
section
variable {P : Program} {w : World} {K : PySem.W.Frag} {mg : Str → Option Value} {base : Heap}
theorem sc__law_told : FnScope ["_law_found", "_law_due_here", "_law_forms", "_law_form_here"] ["_law_found", "_law_due_here"] (defScope s__law_told) := ⟨rfl, rfl, rfl, by decide +kernel, rfl, by decide +kernel, by decide +kernel⟩
theorem ok__law_told {f : Addr} {fd : FuncData} {C CN : Addr} (TN : NTxt K mg CN) {fF : Addr} {fdF : FuncData} (okF : FnOk P w K mg base CX0 1 fF fdF ["self", "other"] (spEq (RF C))) (OQ : OwnQ K C fF fdF) (F : Fun K "_law_told" "_law_told" s__law_told f fd) (z : Zs mg) (c_Form_4 : CalC P w K mg base 3 "Form" C ["self", "width", "point", "manner", "ends"] [] (spInit C)) (n_rows : CalM P w K mg base 1 CN "rows" ["self"] (spRowsM C CN)) (n_forms : CalM P w K mg base 1 CN "forms" ["self"] (spFormsM C CN)) (n_holds : CalM P w K mg base 1 CN "holds" ["self"] (spHoldsM C CN)) (n_enters : CalM P w K mg base 1 CN "enters" ["self"] (spEnM C CN)) (n_out : CalM P w K mg base 1 CN "out" ["self"] (spOutM C CN)) : FnOk P w K mg base CX0 6 f fd ["_law_found", "_law_due_here"] (spTold40 C CN) := by
  refine F.ok sc__law_told (fun vs H Q E h => ?_) (fun cdv A outer s H vs Q E hr h => ?_)
  · obtain ⟨p, t, n, rfl, _⟩ := h
    rfl
  · obtain ⟨p, t, n, rfl, hn, hpt, q⟩ := h
    refine ⟨_, (pss_cons (ps_setLc (i := 2) (own := [("_law_form_here", 3)]) (g := gName 3) (tt := tYes) (te := tMake C (spInit C) [] E0 (tCons (tOp (rIxT K) (tVar 3) (tC (.int 0))) (tCons (tOp (rIxT K) (tVar 3) (tC (.int 1))) (tCons (tOp (rIxT K) (tVar 3) (tC (.int 2))) (tCons (tOp (rIxT K) (tVar 3) (tC (.int 3))) tNil))))) (by rfl) sc__law_told.nd rfl rfl (sw_true rfl rfl rfl (by decide +kernel)) (pi_list (pe_ix ix_tup (pv 1) pe_int (fun _ _ => rfl))) (blkOk_by (own := [("_law_form_here", 3)]) (N := ["_law_found", "_law_due_here", "_law_forms", "_law_form_here"]) (sc := defScope s__law_told) (by decide +kernel)) (fun _ _ _ _ _ => by exact (pg_name (i := 3) sc__law_told.nd rfl (.inl rfl))) (fun _ _ _ _ _ => by exact pts_nil) (fun _ _ _ _ _ => by exact (pe_calc c_Form_4 hr (pa_cons (pe_ix ix_tup (pv 3) pe_int (fun _ _ => rfl)) (pa_cons (pe_ix ix_tup (pv 3) pe_int (fun _ _ => rfl)) (pa_cons (pe_ix ix_tup (pv 3) pe_int (fun _ _ => rfl)) (pa_cons (pe_ix ix_tup (pv 3) pe_int (fun _ _ => rfl)) pa_nil)))))))
      (pss_cons (ps_if (PW.pt (pw_or (pt_cmpR (op_neG (rcNe_list (mon_ins RF.mon) (eqG_ins okF OQ.find OQ.fn OQ.b pass0)) (hr.mono (by decide))) (pe_calm0 (pv 0) TN.cl n_forms hr) (pv 2) (nomark _)) (pw_or (pt_cmpR op_ne (pe_calm0 (pv 0) TN.cl n_enters hr) (pe_ix ix_tup (pv 1) pe_int (fun _ _ => rfl)) (nomark _)) (pw_or1 (pt_cmpR (op_neG (rcNe_list (mon_tup mon_flat) (eqG_tup mon_flat eqG_flat)) (hr.mono (by decide))) (pe_calm0 (pv 0) TN.cl n_rows hr) (pe_ix ix_tup (pv 1) pe_int (fun _ _ => rfl)) (nomark _)))))) (pss_one (ps_ret pe_bl)) pss_nil)
      (pss_one (ps_ret (pe_and (pe_cmpR (op_eqG (rcG_list (mon_tup mon_flat) (eqG_tup mon_flat eqG_flat)) (hr.mono (by decide))) (pe_calm0 (pv 0) TN.cl n_holds hr) (pe_ix ix_tup (pv 1) pe_int (fun _ _ => rfl)) (nomark _)) (pe_one (pe_cmpR op_eq (pe_calm0 (pv 0) TN.cl n_out hr) (pe_ix ix_tup (pv 1) pe_int (fun _ _ => rfl)) (nomark _)))))))), ?_⟩
    obtain ⟨ok, dx, _, _, _, _, _, _, _, b⟩ := id hn
    obtain ⟨fa, ra, ha, tl0, hht, ⟨fv0, hfa, tf0⟩, ⟨rv0, hra, tr0⟩, ⟨hv0, hha, th0⟩⟩ := id hpt
    have f12 := ok.f2
    have lf0 := tf0.len
    rw [List.length_map] at lf0
    refine ⟨_, rfl, t, _, 0, .ref fa, rfl, rfl, SqT.of hht, a0, fa, rfl, ⟨_, SqL.of hfa⟩, fun D hD => ?_⟩
    refine lc_it (walk_list (K := K) (a := fa) (xs := fv0)) (fun i G => Same H G ∧ ∃ ws, G D = some (.lst ws) ∧ FsAt C G ws (n.fs.take i)) ⟨same_new hD, [], upd_same, .nil⟩ (fun i G _ hP => SqL.of (hP.1 _ _ hfa)) (fun i x G G' hi hP hY => ?_) (fun G hP => ?_)
    · obtain ⟨s1, ws, hd, fw⟩ := hP
      obtain ⟨rfl, hx⟩ := hY
      obtain ⟨q1, xs, rfl, exs, hq1⟩ := tf0.get hx
      rw [List.getElem?_map] at exs
      obtain ⟨f, ef, rfl⟩ := Option.map_eq_some_iff.mp exs
      have hq2 := s1 _ _ hq1
      have fo := ok.fo f (List.mem_of_getElem? ef)
      have lw := fw.len
      rw [List.length_take] at lw
      refine ⟨rfl, _, rfl, q1, _, 0, wV f.w, rfl, rfl, SqT.of hq2, a0, _, rfl, q1, _, 1, .int f.pt, rfl, rfl, SqT.of hq2, a1, _, rfl, q1, _, 2, .str f.m.str, rfl, rfl, SqT.of hq2, a2, _, rfl, q1, _, 3, .str (endS f.st), rfl, rfl, SqT.of hq2, atI_nat (j := 3) rfl, fun x dx2 hx0 hdx ne => ?_⟩
      have sM := make_same (C := C) hx0 hdx ne
      refine ⟨x, dx2, f.w, f.pt, f.m, f.st, rfl, fo.wo, fo.p0, fo.p1, upd_same, fun H2 hF fr1 fr2 => ⟨rfl, ?_⟩⟩
      have S2 : Same G' H2 := fun b o e => fr1 b o (ne_of_none e hx0) (sM _ _ e)
      have hd2 := S2 _ _ hd
      refine ⟨ws, hd2, sl_lt (by omega), fun b o e => ?_, _, upd_same, ?_⟩
      · rw [upd_ne (ne_of_none e hD)]
        exact S2 _ _ (s1 _ _ e)
      · rw [List.take_add_one, ef]
        exact ((fw.same S2).app (fat_one hF)).butL SameBut.upd hd2
    obtain ⟨s1, ws, hd, fw⟩ := hP
    rw [lf0, List.take_length] at fw
    refine ⟨_, rfl, p, dx, _, rfl, s1 _ _ b.ob, nl_no (by decide +kernel), p, n, rfl, hn.same s1, fun fl2 fv2 G2 hf2 s2 h_fl2 hff => ?_⟩
    have S2 := s1.trans s2
    refine ⟨_, rfl, ⟨fl2, D, fv2, ws, rfl, rfl, h_fl2, s2 _ _ hd, hff.prs (fw.same s2)⟩, fun G3 e3 => ⟨_, rfl, iteF ?_⟩⟩
    have S3 : Same H G3 := fun b o e => e3 _ _ (S2 _ _ e)
    refine ⟨_, rfl, p, dx, _, rfl, S3 _ _ b.ob, nl_no (by decide +kernel), p, n, rfl, hn.same S3, _, rfl, t, _, 1, .int n.en, rfl, rfl, SqT.of (S3 _ _ hht), a1, rfl, _, rfl, iteC (d := false) (ndt _) (iteF ?_)⟩
    refine ⟨_, rfl, p, dx, _, rfl, S3 _ _ b.ob, nl_no (by decide +kernel), p, n, rfl, hn.same S3, fun rl2 rv2 G4 hr2 s4 h_rl2 hrr => ?_⟩
    have S4 := S3.trans s4
    refine ⟨_, rfl, t, _, 2, .ref ra, rfl, rfl, SqT.of (S4 _ _ hht), a2, ⟨rl2, ra, rv2, rv0, rfl, rfl, h_rl2, S4 _ _ hra, hrr.prs (tr0.same S4) (rows_flat _)⟩, fun G5 e5 => ⟨_, rfl, iteF ?_⟩⟩
    have S5 : Same H G5 := fun b o e => e5 _ _ (S4 _ _ e)
    refine ⟨_, rfl, p, dx, _, rfl, S5 _ _ b.ob, nl_no (by decide +kernel), p, n, rfl, hn.same S5, fun hl2 hv2 G6 hh2 s6 h_hl2 hhh => ?_⟩
    have S6 := S5.trans s6
    refine ⟨_, rfl, t, _, 3, .ref ha, rfl, rfl, SqT.of (S6 _ _ hht), atI_nat (j := 3) rfl, ⟨hl2, ha, hv2, hv0, rfl, rfl, h_hl2, S6 _ _ hha, hhh.prs (th0.same S6) (holds_flat _)⟩, fun G7 e7 => ⟨_, rfl, ?_⟩⟩
    have S7 : Same H G7 := fun b o e => e7 _ _ (S6 _ _ e)
    refine ⟨_, rfl, p, dx, _, rfl, S7 _ _ b.ob, nl_no (by decide +kernel), p, n, rfl, hn.same S7, _, rfl, t, _, 4, .int n.out, rfl, rfl, SqT.of (S7 _ _ hht), atI_nat (j := 4) rfl, rfl, ?_⟩
    exact (congrArg (fun c => Q (.bl c) G7) (decide_eq_true rfl)).mpr (q G7 S7)
end
end E1

namespace E1
open PySem PySem.Spec PyProof.Rows L2

section
variable {X : Cx}
/-- len of a set of whole numbers: as many as any list of its members without two alike -/
def rLenSet (w : World) : List V → Hp → VK → Prop := fun vs H Q => ∃ (a : Addr) (S : Int → Bool) (n : Nat), vs = [.ref a] ∧ H a = some (SetO w a S n) ∧ ((∀ ss : List Int, ss.Nodup → (∀ k, k ∈ ss ↔ S k = true) → ss.length = n) → Q (.int n) H)
theorem cr_lenSet : CallR X (.builtin "len") (rLenSet X.w) := by
  intro pins s σ H vs us Q I r h
  obtain ⟨a, S, n, rfl, ha, q⟩ := h
  obtain ⟨o, es, ep, t, ho, hex, hd, g, nd, hm, hb, hf, hn, hr, hl⟩ := setO_get I ha
  rw [Vals.ref1 r]
  refine call_len_set ho hex hd hf (by have := hb; unfold scanBound at this; omega) ⟨.int n, H, I.tok _, ⟨_, by rw [hn]⟩, q fun ss nd2 mem => ?_⟩
  have p : ss.Perm (es.toList.map keyOf) := (List.perm_ext_iff_of_nodup nd2 nd).mpr fun k => (mem k).trans (hm k)
  rw [p.length_eq, List.length_map, Array.length_toList, hn]
end
open PySem.ErrX (kP kA)
structure Errs40 (K : PySem.W.Frag) (mg : Str → Option Value) (CE CC CB : Addr) : Prop where
  gE : mg "EchoError" = some (.ref CE)
  gC : mg "NoChoice" = some (.ref CC)
  gB : mg "BadNet" = some (.ref CB)
  XC : ExcC K CC
  XB : ExcC K CB
  exC : PySem.W.exmOne K (.ref CC) (.ref CC) = some true
  exB : PySem.W.exmOne K (.ref CB) (.ref CB) = some true
  cE : PySem.W.kitOne K (.ref CC) (.ref CE) = some true
  bE : PySem.W.kitOne K (.ref CB) (.ref CE) = some true
  bC : PySem.W.kitOne K (.ref CB) (.ref CC) = some false
  noP : PySem.W.findIn K (.ref CB) "part" = some none
  noA : PySem.W.findIn K (.ref CB) "at" = some none
theorem bn_part {v u : V} : List.lookup ("part" : Str) [(kP, v), (kA, u)] = some v := by
  rw [List.lookup_cons, beq_self_eq_true]
theorem bn_at {v u : V} : List.lookup ("at" : Str) [(kP, v), (kA, u)] = some u := by
  rw [List.lookup_cons, show (("at" : Str) == kP) = false by decide +kernel]
  show List.lookup kA [(kA, u)] = some u
  rw [List.lookup_cons, beq_self_eq_true]
/-- which things are keep rows' numbers -/
def KIs (K : PySem.W.Frag) (H : Hp) (n : NetP) (xs : List V) (bs : List Bool) : Prop := bs.length = xs.length ∧ ∀ (i : Nat) (v : V) (b : Bool), xs[i]? = some v → bs[i]? = some b → KeepIs K H v n b
theorem KIs.app {K : PySem.W.Frag} {H : Hp} {n : NetP} {xs ys : List V} {bs cs : List Bool} (h : KIs K H n xs bs) (g : KIs K H n ys cs) : KIs K H n (xs ++ ys) (bs ++ cs) := by
  refine ⟨by rw [List.length_append, List.length_append, h.1, g.1], fun i v b e1 e2 => ?_⟩
  by_cases c : i < xs.length
  · rw [List.getElem?_append_left c] at e1
    rw [List.getElem?_append_left (by rw [h.1]; exact c)] at e2
    exact h.2 i v b e1 e2
  · rw [List.getElem?_append_right (by omega)] at e1
    rw [List.getElem?_append_right (by rw [h.1]; omega), h.1] at e2
    exact g.2 _ v b e1 e2
theorem KIs.nats {K : PySem.W.Frag} {H : Hp} {n : NetP} {ks : List Nat} (hk : ∀ k ∈ ks, kpAt n.rows k = true) : KIs K H n (ks.map nI) (ks.map fun _ => true) := by
  refine ⟨by rw [List.length_map, List.length_map], fun i v b e1 e2 => ?_⟩
  rw [List.getElem?_map] at e1 e2
  obtain ⟨k, ek, rfl⟩ := Option.map_eq_some_iff.mp e1
  rw [ek] at e2
  cases e2
  have kk := hk k (List.mem_of_getElem? ek)
  obtain ⟨f, a, er⟩ := kp_some kk
  exact .inl ⟨k, rfl, (List.getElem?_eq_some_iff.mp er).1, kk.symm⟩
theorem KIs.one {K : PySem.W.Frag} {H : Hp} {n : NetP} {v : V} {b : Bool} (h : KeepIs K H v n b) : KIs K H n [v] [b] := by
  refine ⟨rfl, fun i x c e1 e2 => ?_⟩
  cases i with
  | zero =>
    cases e1
    cases e2
    exact h
  | succ i => cases e1
theorem all_true {α : Type} (l : List α) : (l.map fun _ => true).all id = true := by
  rw [List.all_map, List.all_eq_true]
  exact fun _ _ => rfl
def sp40Ref (K : PySem.W.Frag) (C CN : Addr) : Sp := fun vs H Q _ => ∃ (p sl : Addr) (n : NetP) (xs : List V) (bs : List Bool), vs = [.ref p, .ref sl] ∧ NetAt C CN H p n ∧ H sl = some (.lst xs) ∧ xs.length ≤ 63 ∧ KIs K H n xs bs ∧ bs.all id = false ∧ ∀ H', Same H H' → Q (.bl true) H'
def sp40NoRoom (C CN : Addr) : Sp := fun vs H Q _ => ∃ (p sl : Addr) (n : NetP) (ks : List Nat), vs = [.ref p, .ref sl] ∧ NetAt C CN H p n ∧ H sl = some (.lst (ks.map nI)) ∧ ks.length ≤ 63 ∧ (∀ k ∈ ks, kpAt n.rows k = true) ∧ (∀ ss : List Nat, ss.Pairwise (· < ·) → (∀ k, k ∈ ss ↔ k ∈ ks) → 12 < n.fs.length + (csOf n.rows ss).length) ∧ ∀ H', Same H H' → Q (.bl true) H'
def sp40Refs (C CN : Addr) : Sp := fun vs H Q _ => ∃ (a hp p sl : Addr) (n : NetP) (ks : List Nat) (c : Int), vs = [.ref a, .ref hp, .ref p, .ref sl] ∧ WellAt H a c ∧ 0 ≤ c ∧ c ≤ 9000 ∧ PartsX H hp n ∧ (∀ H', SameBut a H H' → NetAt C CN H' p n) ∧ H sl = some (.lst (ks.map nI)) ∧ ks.length ≤ 60 ∧ (∀ k ∈ ks, kpAt n.rows k = true) ∧ hp ≠ a ∧ sl ≠ a ∧ ∀ H', SameBut a H H' → WellAt H' a (c + 2) → Q (.bl true) H'
theorem cut_to {xs : List V} {r : Nat} (h : r ≤ xs.length) : cutV xs none (some (r : Int)) = xs.take r := by
  unfold cutV
  rw [HT.sIx_none, HT.sIx_nat, List.drop_zero, Nat.sub_zero, Nat.min_eq_left h]
theorem cut_from {xs : List V} {r : Nat} (h : r ≤ xs.length) : cutV xs (some (r : Int)) none = xs.drop r := by
  unfold cutV
  rw [HT.sIx_none, HT.sIx_nat, Nat.min_eq_left h]
  exact List.take_of_length_le (by rw [List.length_drop]; omega)
section
variable {P : Program} {w : World} {K : PySem.W.Frag} {mg : Str → Option Value} {base : Heap}
theorem sc__law_refused : FnScope ["_law_made_here", "_law_some", "_law_word_here", "e"] ["_law_made_here", "_law_some"] (defScope s__law_refused) := ⟨rfl, rfl, rfl, by decide +kernel, rfl, by decide +kernel, by decide +kernel⟩
theorem ok__law_refused {f : Addr} {fd : FuncData} {C CN CC CE CB : Addr} (X : Errs40 K mg CE CC CB) (c_freed : CalX P w K mg base 8 "freed" ["net", "rows"] [] (spFreedX K C CN CC CB)) (F : Fun K "_law_refused" "_law_refused" s__law_refused f fd) (z : Zs mg) : FnOk P w K mg base CX0 9 f fd ["_law_made_here", "_law_some"] (sp40Ref K C CN) := by
  refine F.ok sc__law_refused (fun vs H Q E h => ?_) (fun cdv A outer s H vs Q E hr h => ?_)
  · obtain ⟨p, sl, n, xs, bs, rfl, _⟩ := h
    rfl
  · obtain ⟨p, sl, n, xs, bs, rfl, hn, hsl, l63, ki, no, q⟩ := h
    refine ⟨_, (pss_cons (ps_set (i := 2) sc__law_refused.nd rfl (.inl rfl) pe_str)
      (pss_cons (ps_try_as (i := 3) (c := .ref CC) (tb := fun W => tDrop (tCallS (spFreedX K C CN CC CB) (WE W) (tCons (tVar 0) (tCons (tVar 1) tNil)))) (ts := fun a cls d => tAsg (tOp (rIxL K) (tLst (tCons (tC (.str "other")) (tCons (tC (.str "choice")) tNil))) (tCB (fun xs H Q => (∃ i, xs = [V.int i] ∧ Q (.int i) H) ∨ ∃ k, xs = [V.bl k] ∧ Q (.int (if k then 1 else 0)) H) (tCons (tCB (rIsX K a cls d) (tCons (tVar 3) (tCons (tC (.ref CE)) tNil))) tNil))) (gName 2)) rfl rfl sc__law_refused.nd rfl rfl ⟨rfl, by decide, .inl X.gC⟩ takes0 (fun W pn xe tk _ => (pss_one (ps_expr (pe_calxS c_freed hr tk (pa_cons (pv 0) (pa_cons (pv 1) pa_nil))))))
      (fun a oe cls d pn hz hf => (pss_one (ps_set (i := 2) sc__law_refused.nd rfl (.inl rfl) (pe_ix ix_list (pe_lst (pa_cons pe_str (pa_cons pe_str pa_nil))) (pe_callTy call_int1 (by rfl) z.int (by decide +kernel) (pa_cons (pe_callB (call_isX hz hf) (by rfl) z.isinstance (by decide +kernel) (pa_cons (pv 3) (pa_cons (pe_glob (v := .ref CE) (by rfl) X.gE rfl) pa_nil))) pa_nil)) (fun _ _ => rfl))))))
      (pss_one (ps_ret (pe_cmpR op_eq (pv 2) pe_str (nomark _)))))), ?_⟩
    refine ⟨_, rfl, _, rfl, p, sl, n, xs, bs, rfl, hn, hsl, l63, ki.1, ki.2, fun _ G s1 => ⟨true, X.exC, fun _ a ha => ?_, fun z => nomatch z⟩, fun z => by rw [no] at z; cases z⟩
    refine ⟨(by show 2 ≤ sizeLine; decide), fun l hl => ?_⟩
    have s2 := same_new (o := .lst [V.str "other", V.str "choice"]) hl
    refine ⟨_, rfl, CC, _, _, true, rfl, X.XC, rfl, (fun u h => h), (fun dd e => nomatch e), X.cE, .inr ⟨_, rfl, l, _, _, _, rfl, rfl, SqL.of upd_same, a1, ?_⟩⟩
    refine ⟨_, rfl, rfl, ?_⟩
    exact (congrArg (fun c => Q (.bl c) _) (decide_eq_true rfl)).mpr (q _ (s1.trans s2))
theorem sc__law_no_room : FnScope ["_law_made_here", "_law_some", "_law_found", "e"] ["_law_made_here", "_law_some"] (defScope s__law_no_room) := ⟨rfl, rfl, rfl, by decide +kernel, rfl, by decide +kernel, by decide +kernel⟩
theorem ok__law_no_room {f : Addr} {fd : FuncData} {C CN CC CE CB : Addr} (X : Errs40 K mg CE CC CB) (EB : PySem.ErrX.ErrC K mg "BadNet" CB) (c_freed : CalX P w K mg base 8 "freed" ["net", "rows"] [] (spFreedX K C CN CC CB)) (F : Fun K "_law_no_room" "_law_no_room" s__law_no_room f fd) (z : Zs mg) : FnOk P w K mg base CX0 9 f fd ["_law_made_here", "_law_some"] (sp40NoRoom C CN) := by
  refine F.ok sc__law_no_room (fun vs H Q E h => ?_) (fun cdv A outer s H vs Q E hr h => ?_)
  · obtain ⟨p, sl, n, ks, rfl, _⟩ := h
    rfl
  · obtain ⟨p, sl, n, ks, rfl, hn, hsl, l63, hk, big, q⟩ := h
    refine ⟨_, (pss_cons (ps_set (i := 2) sc__law_no_room.nd rfl (.inl rfl) pe_non)
      (pss_cons (ps_try_as (i := 3) (c := .ref CB) (tb := fun W => tDrop (tCallS (spFreedX K C CN CC CB) (WE W) (tCons (tVar 0) (tCons (tVar 1) tNil)))) (ts := fun a cls d => tAsg (tTup (tCons (tXf a cls d CB "part" (tVar 3)) (tCons (tXf a cls d CB "at" (tVar 3)) (tCons (tAndV (tCB (rIsX K a cls d) (tCons (tVar 3) (tCons (tC (.ref CE)) tNil))) (tNotV (tCB (rIsX K a cls d) (tCons (tVar 3) (tCons (tC (.ref CC)) tNil))))) tNil)))) (gName 2)) rfl rfl sc__law_no_room.nd rfl rfl ⟨rfl, by decide, .inl X.gB⟩ takes0 (fun W pn xe tk _ => (pss_one (ps_expr (pe_calxS c_freed hr tk (pa_cons (pv 0) (pa_cons (pv 1) pa_nil))))))
      (fun a oe cls d pn hz hf => (pss_one (ps_set (i := 2) sc__law_no_room.nd rfl (.inl rfl) (pe_tup (pa_cons (by exact (pe_xf (E1.ErrC.xf EB) X.noP hz hf (pv 3))) (pa_cons (by exact (pe_xf (E1.ErrC.xf EB) X.noA hz hf (pv 3))) (pa_cons (pe_and (pe_callB (call_isX hz hf) (by rfl) z.isinstance (by decide +kernel) (pa_cons (pv 3) (pa_cons (pe_glob (v := .ref CE) (by rfl) X.gE rfl) pa_nil))) (pe_one (pe_not (pe_callB (call_isX hz hf) (by rfl) z.isinstance (by decide +kernel) (pa_cons (pv 3) (pa_cons (pe_glob (v := .ref CC) (by rfl) X.gC rfl) pa_nil)))))) pa_nil))))))))
      (pss_one (ps_ret (pe_cmpR (op_eqD hr.units) (pv 2) (pe_tup (pa_cons pe_str (pa_cons pe_non (pa_cons pe_bl pa_nil)))) (nomark _)))))), ?_⟩
    have ki := KIs.nats (K := K) (H := H) hk
    refine ⟨_, rfl, _, rfl, p, sl, n, ks.map nI, ks.map fun _ => true, rfl, hn, hsl, by rw [List.length_map]; exact l63, ki.1, ki.2, (fun z => by rw [all_true] at z; cases z), fun _ => ⟨ks, rfl, hk, fun ss pw mem => ⟨fun few => absurd (big ss pw mem) (by omega), fun _ d G s1 hd0 hbn => ⟨true, X.exB, fun _ a ha => ?_, fun z => nomatch z⟩⟩⟩⟩
    have IS : ∀ (dd : Addr), some d = some dd → ∃ fs, G dd = some (.xd fs) := fun dd e => by
      cases e
      exact ⟨_, hbn⟩
    refine ⟨_, rfl, rfl, rfl, d, _, _, rfl, hbn, bn_part, _, rfl, rfl, rfl, d, _, _, rfl, hbn, bn_at, _, rfl, CB, _, _, true, rfl, X.XB, rfl, (fun u h => h), IS, X.bE, ?_⟩
    refine ⟨true, rfl, _, rfl, CB, _, _, false, rfl, X.XB, rfl, (fun u h => h), IS, X.bC, _, rfl, (by show 3 ≤ sizeLine; decide), fun t ht => ?_⟩
    generalize hG1 : upd _ t _ = G1
    obtain ⟨s2, h_t⟩ := upd_gen hG1 ht
    refine ⟨_, rfl, (by show 3 ≤ sizeLine; decide), fun t2 ht2 => ?_⟩
    generalize hG2 : upd _ t2 _ = G2
    obtain ⟨s3, h_t2⟩ := upd_gen hG2 ht2
    have D3 : ∀ G : Hp, DpAll K G [V.str "forms", .non, .bl true] [.str "forms", .none, .bool true] := fun _ => .cons (.str _) (.cons .non (.cons (.bl _) .nil))
    refine ⟨.tuple [.str "forms", .none, .bool true], .tuple [.str "forms", .none, .bool true], .tup (SqT.of (s3 _ _ h_t)) (D3 _), .tup (SqT.of h_t2) (D3 _), (by decide +kernel), (by decide +kernel), ?_⟩
    rw [show PyData.eqv (.tuple [.str "forms", .none, .bool true]) (.tuple [.str "forms", .none, .bool true]) = true by decide +kernel]
    exact q _ (s1.trans (s2.trans s3))
end
end E1

namespace E1
open PySem PySem.Spec PyProof.Rows L2
theorem two_succ {x : Int} (h : 1 ≤ x) : two x = 2 * two (x - 1) := by
  unfold two
  have e : x.toNat = (x - 1).toNat + 1 := by omega
  rw [e, Int.pow_succ, Int.mul_comm]
theorem word_in {w : Option Int} (hw : WOk w) (st : Bool) (v : Int) : inR w (wordF w st v) = true := by
  cases w with
  | none => rfl
  | some y =>
    obtain ⟨y0, y1⟩ := hw y rfl
    have e := two_succ (x := y) (by omega)
    have r0 := two_pos (y - 1)
    show (decide (lst y ≤ if inR (some y) v = true then v else if st = true then (if v < 0 then lst y else grt y) else (v - lst y) % two y + lst y) && decide ((if inR (some y) v = true then v else if st = true then (if v < 0 then lst y else grt y) else (v - lst y) % two y + lst y) ≤ grt y)) = true
    rw [Bool.and_eq_true, decide_eq_true_eq, decide_eq_true_eq]
    by_cases c : inR (some y) v = true
    · rw [if_pos c]
      unfold inR at c
      rw [Bool.and_eq_true, decide_eq_true_eq, decide_eq_true_eq] at c
      exact c
    · rw [if_neg c]
      have m0 := Int.emod_nonneg (v - lst y) (show two y ≠ 0 by omega)
      have m1 := Int.emod_lt_of_pos (v - lst y) (show 0 < two y by omega)
      unfold lst grt at *
      rw [e] at *
      generalize two (y - 1) = t at *
      generalize (v - -t) % (2 * t) = u at *
      cases st with
      | true =>
        rw [if_pos rfl]
        split <;> omega
      | false =>
        rw [if_neg (by decide)]
        omega
theorem behind_ok {n : NetP} (ok : NetOk n) (x : Int) (st : List Int) : StOk n (n.behind (n.nums x st)) := by
  refine ⟨by unfold NetP.behind; rw [List.length_map], fun i h k e1 e2 => ?_⟩
  unfold NetP.behind at e2
  rw [List.getElem?_map, e1] at e2
  cases e2
  obtain ⟨hf, _, b, eb⟩ := ok.ho h (List.mem_of_getElem? e1)
  have e := accL_at (g := numRow n.fs n.pts x st) eb
  have e3 : (n.nums x st).getD h.l 0 = numRow n.fs n.pts x st (accL (numRow n.fs n.pts x st) (n.rows.take h.l)) (.keep h.k b) := by
    unfold NetP.nums
    rw [List.getD_eq_getElem?_getD, e]
    rfl
  show inR (frm n.fs h.k).w ((n.nums x st).getD h.l 0) = true
  rw [e3]
  have efr := frm_at (List.getElem?_eq_getElem hf)
  refine word_in ?_ _ _
  rw [efr]
  exact (ok.fo _ (List.getElem_mem hf)).wo
theorem StOk.start {n : NetP} (ok : NetOk n) : StOk n (n.holds.map (·.s)) := ⟨List.length_map .., fun i h2 k2 e1 e2 => by
  rw [List.getElem?_map, e1] at e2
  cases e2
  have hk := ok.ho h2 (List.mem_of_getElem? e1)
  have ef := List.getElem?_eq_getElem hk.1
  rw [frm_at ef]
  exact hk.2.1 _ ef⟩
theorem nums_bd {n : NetP} (ok : NetOk n) {x : Int} {st : List Int} {s : Nat} (s110 : 110 ≤ s) (hx : x.natAbs < 2 ^ 110) (hst : ∀ k ∈ st, k.natAbs < 2 ^ s) : ∀ i, i ≤ n.rows.length → ∀ k ∈ accL (numRow n.fs n.pts x st) (n.rows.take i), k.natAbs < 2 ^ (s + 600 * i) := by
  intro i
  induction i with
  | zero => intro _ k hk; cases hk
  | succ i ih =>
    intro hi k hk
    obtain ⟨r, er⟩ : ∃ r, n.rows[i]? = some r := ⟨_, List.getElem?_eq_getElem (by omega)⟩
    rw [accL_next er] at hk
    have ih' := ih (by omega)
    have lp : 0 < 2 ^ (s + 600 * i) := Nat.pow_pos (by decide)
    have wide : ∀ {y a : Nat}, y < 2 ^ a → a ≤ s + 600 * (i + 1) → y < 2 ^ (s + 600 * (i + 1)) := fun h l => up h l
    rcases List.mem_append.mp hk with hk | hk
    · exact wide (ih' k hk) (by omega)
    rw [List.mem_singleton.mp hk]
    have at' : ∀ a, ((accL (numRow n.fs n.pts x st) (n.rows.take i)).getD a 0).natAbs < 2 ^ (s + 600 * i) := fun a => getD_lt ih' lp
    have pp : ∀ a, -200 ≤ n.pts.getD a 0 ∧ n.pts.getD a 0 ≤ 200 := fun a => by
      rw [List.getD_eq_getElem?_getD]
      cases e : n.pts[a]? with
      | none => exact ⟨by decide, by decide⟩
      | some k => exact ok.po k (List.mem_of_getElem? e)
    have sums : ∀ a b sg, (sg = 1 ∨ sg = -1) → (sumN n.pts (accL (numRow n.fs n.pts x st) (n.rows.take i)) a b sg).natAbs < 2 ^ (s + 600 * (i + 1)) := fun a b sg hs => by
      obtain ⟨a0, a1⟩ := pp a
      obtain ⟨b0, b1⟩ := pp b
      unfold sumN
      have k1 : ∀ c, ((if n.pts.getD b 0 > n.pts.getD a 0 then n.pts.getD b 0 else n.pts.getD a 0) - n.pts.getD c 0).toNat < 401 := fun c => by
        obtain ⟨c0, c1⟩ := pp c
        split <;> omega
      have x1 := abs_mul_lt (at' a) (two_pow_lt (k1 a))
      have x2 := abs_mul_lt (at' b) (two_pow_lt (k1 b))
      refine wide (abs_add_lt x1 ?_) (by omega)
      rcases hs with rfl | rfl
      · rw [Int.one_mul]
        exact x2
      · rw [Int.neg_mul, Int.one_mul, Int.natAbs_neg]
        exact x2
    have ro := ok.ro i r er
    match r, ro with
    | .inn, _ => exact wide hx (by omega)
    | .old k, _ => exact wide (getD_lt hst (Nat.pow_pos (by decide))) (by omega)
    | .times f m a, h => exact wide (abs_mul_lt (show f.natAbs < 2 ^ 63 from h.1) (at' a)) (by omega)
    | .plus a b, _ => exact sums a b 1 (.inl rfl)
    | .less a b, _ => exact sums a b (-1) (.inr rfl)
    | .move m a, _ => exact wide (at' a) (by omega)
    | .keep f a, h =>
      have fo : (frm n.fs f).Ok := by
        rw [frm_at (List.getElem?_eq_getElem h.1)]
        exact ok.fo _ (List.getElem_mem _)
      have st1 := steps_lt (m := (frm n.fs f).m) (at' a) fo.p0 fo.p1 (pp a).1 (pp a).2
      show (wordF (frm n.fs f).w (frm n.fs f).st (stepsAt (frm n.fs f).pt (frm n.fs f).m _ (n.pts.getD a 0))).natAbs < _
      rcases word_abs (frm n.fs f).w (frm n.fs f).st (stepsAt (frm n.fs f).pt (frm n.fs f).m ((accL (numRow n.fs n.pts x st) (n.rows.take i)).getD a 0) (n.pts.getD a 0)) fo.wo with h2 | h2
      · exact wide (Nat.lt_of_le_of_lt h2 st1) (by omega)
      · exact wide h2 (by omega)

theorem frm_at0 {fs : List FormP} {k : Nat} (h : k < fs.length) : frm fs k ∈ fs := List.mem_of_getElem? (frm_get h)
theorem start_freed {n : NetP} {ss : List Nat} : (n.freed ss).holds.map (·.s) = n.holds.map (·.s) := by
  show (n.holds.map _).map _ = _
  rw [List.map_map]
  rfl
theorem keep_all {n : NetP} {ss : List Nat} (h : ∀ k, k ∈ ss ↔ k ∈ keepsOf n.rows) : (∀ i ∈ ss, kpAt n.rows i = true) ∧ ∀ i, kpAt n.rows i = true → i ∈ ss := by
  refine ⟨fun i hi => (List.mem_filter.mp ((h i).mp hi)).2, fun i hi => (h i).mpr (List.mem_filter.mpr ⟨List.mem_range.mpr ?_, hi⟩)⟩
  obtain ⟨f, a, e⟩ := kp_some hi
  exact (List.getElem?_eq_some_iff.mp e).1
theorem accV {g : List Int → Row → Int} {rows : List Row} {i : Nat} {r : Row} (e : rows[i]? = some r) : (accL g rows).getD i 0 = g ((accL g rows).take i) r := by
  rw [List.getD_eq_getElem?_getD, accL_at e, accL_take]
  rfl
theorem getD_take {l : List Int} {i a : Nat} (h : a < i) : (l.take i).getD a 0 = l.getD a 0 := by
  rw [List.getD_eq_getElem?_getD, List.getD_eq_getElem?_getD, List.getElem?_take, if_pos h]


/-- what went over in the first turns of a run -/
def goneF (n : NetP) (st xs : List Int) : Nat → List Nat
  | 0 => []
  | i + 1 => goneF n st xs i ++ oversOf n (n.nums (xs.getD i 0) (runF n st (xs.take i)).2)
theorem gone_len {n : NetP} {st xs : List Int} : ∀ i, (goneF n st xs i).length ≤ n.rows.length * i
  | 0 => Nat.le_refl _
  | i + 1 => by
    show (goneF n st xs i ++ _).length ≤ _
    have h := gone_len (n := n) (st := st) (xs := xs) i
    have l : (oversOf n (n.nums (xs.getD i 0) (runF n st (xs.take i)).2)).length ≤ n.rows.length := by
      refine Nat.le_trans (List.length_filter_le _ _) ?_
      rw [List.length_range]
      exact Nat.le_refl _
    rw [List.length_append, Nat.mul_succ]
    exact Nat.add_le_add h l
theorem gone_mem {n : NetP} {st xs : List Int} {k : Nat} : ∀ i, k ∈ goneF n st xs i ↔ ∃ j, j < i ∧ k ∈ oversOf n (n.nums (xs.getD j 0) (runF n st (xs.take j)).2)
  | 0 => ⟨(fun h => nomatch h), fun ⟨j, h, _⟩ => absurd h (Nat.not_lt_zero _)⟩
  | i + 1 => by
    show k ∈ goneF n st xs i ++ _ ↔ _
    rw [List.mem_append, gone_mem i]
    refine ⟨fun h => ?_, fun ⟨j, h, e⟩ => ?_⟩
    · rcases h with ⟨j, h, e⟩ | e
      · exact ⟨j, by omega, e⟩
      · exact ⟨i, by omega, e⟩
    · by_cases c : j < i
      · exact .inl ⟨j, c, e⟩
      · rw [show j = i by omega] at e
        exact .inr e
theorem went_none {n : NetP} {nums : List Int} {k f a : Nat} (e : n.rows[k]? = some (.keep f a)) (w : (frm n.fs f).w = none) : wentAt n nums k = false := by
  unfold wentAt wentV
  rw [e]
  show (!decide (V.int _ = V.int 0)) = false
  rw [w]
  have z : ∀ y : Int, (!decide (V.int (y - y) = V.int 0)) = false := fun y => by
    rw [Int.sub_self]
    rfl
  exact z _
theorem went_all {n : NetP} {ss : List Nat} (ok : NetOk n) (hk : ∀ i ∈ ss, kpAt n.rows i = true) (all : ∀ i, kpAt n.rows i = true → i ∈ ss) (nums : List Int) (k : Nat) : wentAt (n.freed ss) nums k = false := by
  cases e : (n.freed ss).rows[k]? with
  | none =>
    unfold wentAt
    rw [e]
  | some r' =>
    have l : (n.freed ss).rows.length = n.rows.length := fr_len _ _ _ _
    have il := (List.getElem?_eq_some_iff.mp e).1
    rw [l] at il
    have er := List.getElem?_eq_getElem il
    obtain ⟨r2, e2, hr⟩ := freed_row ok hk er
    rw [e] at e2
    cases e2
    rcases hr with ⟨e3, _, no⟩ | ⟨_, f, a, g, _, rfl, _, _, eg⟩
    · cases r' with
      | keep f a =>
        refine absurd (all k ?_) no
        unfold kpAt
        rw [er, ← e3]
      | _ => unfold wentAt; rw [e]
    · refine went_none e ?_
      rw [eg]
      rfl
theorem gone_none {n : NetP} {st xs : List Int} (h : ∀ nums k, wentAt n nums k = false) : ∀ i, goneF n st xs i = []
  | 0 => rfl
  | i + 1 => by
    show goneF n st xs i ++ _ = []
    rw [gone_none h i]
    exact List.filter_eq_nil_iff.mpr fun k _ => by rw [h]; decide
theorem quiet_nums {n : NetP} {ss : List Nat} (ok : NetOk n) (hk : ∀ i ∈ ss, kpAt n.rows i = true) {x : Int} {st : List Int} (q : ∀ k ∈ ss, wentAt n (n.nums x st) k = false) : (n.freed ss).nums x st = n.nums x st := by
  have key : ∀ i, i ≤ n.rows.length → accL (numRow (n.freed ss).fs (n.freed ss).pts x st) ((n.freed ss).rows.take i) = accL (numRow n.fs n.pts x st) (n.rows.take i) := by
    intro i
    induction i with
    | zero => exact fun _ => rfl
    | succ i ih =>
      intro hi
      have er := List.getElem?_eq_getElem (show i < n.rows.length by omega)
      obtain ⟨r', er', hr⟩ := freed_row ok hk er
      have ro := ok.ro i _ er
      rw [accL_next er, accL_next er', ih (by omega), freed_pts ok hk]
      congr 2
      have eN : accL (numRow n.fs n.pts x st) (n.rows.take i) = (n.nums x st).take i := (accL_take ..).symm
      rw [eN]
      rcases hr with ⟨rfl, hf, _⟩ | ⟨is, f, a, g, e3, rfl, hf, hg, eg⟩
      · generalize n.rows[i] = r at *
        cases r with
        | keep f a =>
          show wordF (frm (n.fs ++ _) f).w (frm (n.fs ++ _) f).st (stepsAt (frm (n.fs ++ _) f).pt (frm (n.fs ++ _) f).m _ _) = wordF (frm n.fs f).w _ _
          rw [frm_left (hf f a rfl)]
        | _ => rfl
      · have w := q i is
        rw [e3] at er ro ⊢
        have ai : a < i := ro.2
        unfold wentAt wentV at w
        rw [er] at w
        replace w := of_decide_eq_true ((Bool.not_eq_false' ..).mp w)
        have w2 := V.int.inj w
        show wordF (frm (n.freed ss).fs g).w (frm (n.freed ss).fs g).st (stepsAt (frm (n.freed ss).fs g).pt (frm (n.freed ss).fs g).m (((n.nums x st).take i).getD a 0) (n.pts.getD a 0)) = wordF (frm n.fs f).w (frm n.fs f).st (stepsAt (frm n.fs f).pt (frm n.fs f).m (((n.nums x st).take i).getD a 0) (n.pts.getD a 0))
        rw [eg, getD_take ai]
        show stepsAt (frm n.fs f).pt (frm n.fs f).m _ _ = _
        omega
  have l : (n.freed ss).rows.length = n.rows.length := fr_len _ _ _ _
  have := key n.rows.length (Nat.le_refl _)
  rw [List.take_length, ← l, List.take_length] at this
  exact this
theorem freed_behind {n : NetP} {ss : List Nat} {nums : List Int} : (n.freed ss).behind nums = n.behind nums := by
  show (n.holds.map _).map _ = _
  rw [List.map_map]
  rfl
theorem quiet_run {n : NetP} {ss : List Nat} (ok : NetOk n) (hk : ∀ i ∈ ss, kpAt n.rows i = true) {st xs : List Int} (q : ∀ k ∈ ss, k ∉ goneF n st xs xs.length) : runF (n.freed ss) st xs = runF n st xs := by
  have key : ∀ i, i ≤ xs.length → runF (n.freed ss) st (xs.take i) = runF n st (xs.take i) := by
    intro i
    induction i with
    | zero => exact fun _ => rfl
    | succ i ih =>
      intro hi
      have ex := List.getElem?_eq_getElem (show i < xs.length by omega)
      rw [runF_next ex, runF_next ex, ih (by omega), quiet_nums ok hk fun k hkk => ?_, freed_behind]
      · rfl
      · have := q k hkk
        rw [gone_mem] at this
        cases c : wentAt n (n.nums xs[i] (runF n st (xs.take i)).2) k with
        | false => rfl
        | true =>
          refine absurd ⟨i, by omega, ?_⟩ this
          rw [show xs.getD i 0 = xs[i] by rw [List.getD_eq_getElem?_getD, ex]; rfl]
          refine List.mem_filter.mpr ⟨List.mem_range.mpr ?_, c⟩
          obtain ⟨f, a, e⟩ := kp_some (went_kp c)
          exact (List.getElem?_eq_some_iff.mp e).1
  have := key xs.length (Nat.le_refl _)
  rwa [List.take_length] at this
theorem freed_nil (n : NetP) : n.freed [] = n := by
  cases n with
  | mk fs en rows holds out =>
    show NetP.mk (fs ++ []) en (rows.mapIdx (frRow fs.length [] [])) (holds.map _) out = _
    rw [List.append_nil]
    have e1 : rows.mapIdx (frRow fs.length [] []) = rows := by
      refine List.ext_getElem? fun i => ?_
      rw [List.getElem?_mapIdx]
      cases rows[i]? with
      | none => rfl
      | some r => cases r <;> rfl
    have e2 : (holds.map fun h : Hold => (⟨if h.l ∈ ([] : List Nat) then fs.length + ([] : List Nat).idxOf h.k else h.k, h.s, h.l⟩ : Hold)) = holds := by
      refine Eq.trans (List.map_congr_left fun h _ => ?_) (List.map_id _)
      rfl
    exact (congrArg (fun z => NetP.mk fs en z _ out) e1).trans (congrArg (fun z => NetP.mk fs en rows z out) e2)
theorem freed_kp {n : NetP} {ss : List Nat} {i : Nat} : kpAt (n.freed ss).rows i = kpAt n.rows i := by
  cases e : n.rows[i]? with
  | none =>
    have l : (n.freed ss).rows.length = n.rows.length := fr_len _ _ _ _
    have e2 : (n.freed ss).rows[i]? = none := by
      rw [List.getElem?_eq_none_iff] at e ⊢
      omega
    unfold kpAt
    rw [e, e2]
  | some r =>
    have e2 : (n.freed ss).rows[i]? = some _ := fr_get e
    unfold kpAt
    rw [e, e2]
    cases r with
    | keep f a =>
      have e3 : frRow n.fs.length (csOf n.rows ss) ss i (.keep f a) = if i ∈ ss then Row.keep (n.fs.length + (csOf n.rows ss).idxOf f) a else .keep f a := rfl
      rw [e3]
      by_cases c : i ∈ ss
      · rw [if_pos c]
      · rw [if_neg c]
    | _ => rfl
theorem run_small {n : NetP} (ok : NetOk n) (r40 : n.rows.length ≤ 40) {st xs : List Int} (hs : ∀ k ∈ st, k.natAbs < 2 ^ 110) (hx : ∀ x ∈ xs, x.natAbs < 2 ^ 110) (l12 : xs.length ≤ 12) : RunOk n st xs := by
  have key : ∀ i, i ≤ xs.length → ∀ k ∈ (runF n st (xs.take i)).2, k.natAbs < 2 ^ (110 + 24000 * i) := by
    intro i
    induction i with
    | zero => exact fun _ k hk => up (hs k hk) (by omega)
    | succ i ih =>
      intro hi
      have ex := List.getElem?_eq_getElem (show i < xs.length by omega)
      rw [runF_next ex]
      intro k hk
      obtain ⟨h, hh, rfl⟩ : ∃ h ∈ n.holds, k = (n.nums xs[i] (runF n st (xs.take i)).2).getD h.l 0 := by
        unfold NetP.behind at hk
        obtain ⟨h, hm, e⟩ := List.mem_map.mp hk
        exact ⟨h, hm, e.symm⟩
      exact up (getD_lt (all_take (nums_bd ok (s := 110 + 24000 * i) (by omega) (hx _ (List.getElem_mem _)) (ih (by omega)) n.rows.length (Nat.le_refl _))) (Nat.pow_pos (by decide))) (by omega)
  refine ⟨by omega, fun i x e k hk => ?_⟩
  have il := (List.getElem?_eq_some_iff.mp e).1
  exact up (nums_bd ok (s := 110 + 24000 * i) (by omega) (hx _ (List.mem_of_getElem? e)) (key i (by omega)) n.rows.length (Nat.le_refl _) k (by have := hk; rw [List.take_length]; exact this)) (by omega)
theorem run_st {n : NetP} (ok : NetOk n) {st xs : List Int} (h : StOk n st) : ∀ i, i ≤ xs.length → StOk n (runF n st (xs.take i)).2
  | 0, _ => h
  | i + 1, hi => by
    have ex := List.getElem?_eq_getElem (show i < xs.length by omega)
    rw [runF_next ex]
    exact behind_ok ok _ _
end E1

namespace E1
open PySem PySem.Spec PyProof.Rows L2

def sp40Gone (C CN : Addr) : Sp := fun vs H Q _ => ∃ (p wl : Addr) (n : NetP) (xs : List Int), vs = [.ref p, .ref wl] ∧ NetAt C CN H p n ∧ H wl = some (.lst (xs.map V.int)) ∧ (∀ x ∈ xs, inR (frm n.fs n.en).w x = true) ∧ RunOk n (starts n) xs ∧ xs.length ≤ 12 ∧ ∀ l H', Same H H' → H' l = some (.lst ((goneF n (starts n) xs xs.length).map nI)) → Q (.ref l) H'
theorem odd_nat0 {K : PySem.W.Frag} {H : Hp} {n : NetP} {i : Nat} (h : i ∈ (List.range n.rows.length).filter fun i => !kpAt n.rows i) : KeepIs K H (nI i) n false := by
  obtain ⟨h1, h2⟩ := List.mem_filter.mp h
  exact .inl ⟨i, rfl, List.mem_range.mp h1, ((Bool.not_eq_true' _).mp h2).symm⟩
theorem all_no {a b : List Bool} : (a ++ [false] ++ b).all id = false := by
  rw [List.all_append, List.all_append, List.all_cons]
  show (_ && (false && _) && _) = false
  rw [Bool.false_and, Bool.and_false, Bool.false_and]
section
variable {P : Program} {w : World} {K : PySem.W.Frag} {mg : Str → Option Value} {base : Heap}
theorem sc__law_gone : FnScope ["_law_made_here", "_law_words", "_law_state", "_law_found", "_law_word_here", "_law_numbers"] ["_law_made_here", "_law_words"] (defScope s__law_gone) := ⟨rfl, rfl, rfl, by decide +kernel, rfl, by decide +kernel, by decide +kernel⟩
theorem ok__law_gone {f : Addr} {fd : FuncData} {C CN : Addr} (TN : NTxt K mg CN) (F : Fun K "_law_gone" "_law_gone" s__law_gone f fd) (z : Zs mg) (n_start : CalM P w K mg base 1 CN "start" ["self"] (spStartM C CN)) (c_turned : Cal P w K mg base 9 "turned" ["net", "state", "word"] (spTurned C CN)) (c_overs : Cal P w K mg base 7 "overs" ["net", "numbers"] (spOvers C CN)) : FnOk P w K mg base CX0 10 f fd ["_law_made_here", "_law_words"] (sp40Gone C CN) := by
  refine F.ok sc__law_gone (fun vs H Q E h => ?_) (fun cdv A outer s H vs Q E hr h => ?_)
  · obtain ⟨p, wl, n, xs, rfl, _⟩ := h
    rfl
  · obtain ⟨p, wl, n, xs, rfl, hn, hwl, hin, ro, l12, q⟩ := h
    refine ⟨_, (pss_cons (ps_set (i := 2) sc__law_gone.nd rfl (.inl rfl) (pe_calm0 (pv 0) TN.cl n_start hr))
      (pss_cons (ps_set (i := 3) sc__law_gone.nd rfl (.inl rfl) (pe_lst pa_nil))
      (pss_cons (ps_for PassesOwn.never rfl (pi_list (pv 1)) (pg_name (i := 4) sc__law_gone.nd rfl (.inl rfl)) (pss_cons (ps_asg (pe_cal c_turned hr (pa_cons (pv 0) (pa_cons (pv 2) (pa_cons (pv 4) pa_nil)))) (pg_tup (by rfl) (pgs_cons (pg_name (i := 5) sc__law_gone.nd rfl (.inl rfl)) (pgs_cons (pg_name (i := 2) sc__law_gone.nd rfl (.inl rfl)) pgs_nil))))
      (pss_one (ps_set (i := 3) sc__law_gone.nd rfl (.inl rfl) (pe_op op_cat (pv 3) (pe_cal c_overs hr (pa_cons (pv 0) (pa_cons (pv 5) pa_nil))))))))
      (pss_one (ps_ret (pv 3)))))), ?_⟩
    obtain ⟨ok, dx, _, _, _, _, _, _, _, b⟩ := id hn
    have r60 := ok.r2
    refine ⟨_, rfl, p, dx, _, rfl, b.ob, nl_no (by decide +kernel), p, n, rfl, hn, fun sa H1 hsa0 s1 h_sa => ?_⟩
    refine ⟨(by show 0 ≤ sizeLine; decide), fun fa hfa0 => ?_⟩
    generalize hG2 : upd _ fa _ = G2
    obtain ⟨s2, h_fa⟩ := upd_gen hG2 hfa0
    have S2 := s1.trans s2
    replace h_sa := s2 _ _ h_sa
    refine ⟨_, rfl, wl, rfl, ⟨_, SqL.of (S2 _ _ hwl)⟩, ?_⟩
    refine for_it (walk_list (K := K) (a := wl) (xs := xs.map V.int)) (fun i σ G => ∃ (sa fa : Addr) (y4 y5 : Option V), σ = [some (.ref p), some (.ref wl), some (.ref sa), some (.ref fa), y4, y5] ∧ Same H G ∧ G sa = some (.tup ((runF n (starts n) (xs.take i)).2.map V.int)) ∧ G fa = some (.lst ((goneF n (starts n) xs i).map nI))) ⟨sa, fa, none, none, rfl, S2, h_sa, h_fa⟩ (fun i σ G _ hP => by obtain ⟨sa, fa, y4, y5, rfl, s3, _⟩ := hP; exact SqL.of (s3 _ _ hwl)) (fun i v σ G G' hi hP hY => ?_) (fun σ G hP => ?_)
    · obtain ⟨sa, fa, y4, y5, rfl, s3, hsa, hfa⟩ := hP
      obtain ⟨rfl, hx⟩ := hY
      rw [List.getElem?_map] at hx
      obtain ⟨x, ex, rfl⟩ := Option.map_eq_some_iff.mp hx
      have il := (List.getElem?_eq_some_iff.mp ex).1
      have xm := List.mem_of_getElem? ex
      have nok := ro.2 i x ex
      refine ⟨_, rfl, _, rfl, _, rfl, p, sa, n, x, _, rfl, hn.same s3, hsa, run_st ok (StOk.start ok) i (by omega), hin x xm, nok, fun t l s J3 q3 ht hl0 hs0 h_t h_l h_s => ⟨t, _, rfl, SqT.of h_t, rfl, _, _, rfl, _, _, rfl, rfl, ?_⟩⟩
      have S3 := s3.trans q3
      have bl : ∀ k ∈ n.nums x (runF n (starts n) (xs.take i)).2, k.natAbs < 2 ^ 900000 := fun k hk => nok k hk
      refine ⟨_, rfl, _, rfl, _, rfl, p, l, n, _, rfl, hn.same S3, h_l, ⟨nums_len n x _, bl⟩, fun ol J4 hol0 q4 h_ol => ?_⟩
      have gl := gone_len (n := n) (st := starts n) (xs := xs) i
      have gi : n.rows.length * i ≤ 60 * 12 := Nat.mul_le_mul r60 (by omega)
      have ol60 : (oversOf n (n.nums x (runF n (starts n) (xs.take i)).2)).length ≤ 60 := by
        refine Nat.le_trans (List.length_filter_le _ _) ?_
        rw [List.length_range]
        exact r60
      refine ⟨fa, ol, _, _, rfl, rfl, q4 _ _ (q3 _ _ hfa), h_ol, Nat.le_of_lt (sl_lt (by rw [List.length_map, List.length_map]; omega)), fun f2 hf2 => ?_⟩
      generalize hG5 : upd _ f2 _ = G5
      obtain ⟨s5, h_f2⟩ := upd_gen hG5 hf2
      refine ⟨s, f2, _, _, rfl, (S3.trans q4).trans s5, ?_, ?_⟩
      · rw [runF_next ex]
        exact s5 _ _ (q4 _ _ h_s)
      · rw [h_f2, ← List.map_append]
        have e : xs.getD i 0 = x := by rw [List.getD_eq_getElem?_getD, ex]; rfl
        show _ = some (HO.lst ((goneF n (starts n) xs i ++ oversOf n (n.nums (xs.getD i 0) _)).map nI))
        rw [e]
    · obtain ⟨sa, fa, y4, y5, rfl, s3, hsa, hfa⟩ := hP
      rw [List.length_map] at hfa
      exact ⟨_, rfl, q fa G s3 hfa⟩
theorem sc__law_refusals : FnScope ["_law_well_here", "_law_net_here", "_law_made_here", "_law_some", "_law_at", "_law_odd", "_law_row"] ["_law_well_here", "_law_net_here", "_law_made_here", "_law_some"] (defScope s__law_refusals) := ⟨rfl, rfl, rfl, by decide +kernel, rfl, by decide +kernel, by decide +kernel⟩
theorem ok__law_refusals {f : Addr} {fd : FuncData} {C CN : Addr} (F : Fun K "_law_refusals" "_law_refusals" s__law_refusals f fd) (z : Zs mg) (c__law_draw : Cal P w K mg base 1 "_law_draw" ["_law_well_here", "_law_many"] spDraw) (c__law_refused : Cal P w K mg base 9 "_law_refused" ["_law_made_here", "_law_some"] (sp40Ref K C CN)) : FnOk P w K mg base CX0 10 f fd ["_law_well_here", "_law_net_here", "_law_made_here", "_law_some"] (sp40Refs C CN) := by
  refine F.ok sc__law_refusals (fun vs H Q E h => ?_) (fun cdv A outer s H vs Q E hr h => ?_)
  · obtain ⟨a, hp, p, sl, n, ks, c, rfl, _⟩ := h
    rfl
  · obtain ⟨a, hp, p, sl, n, ks, c, rfl, hw, c0, c9, hpp, hn, hsl, l60, hk, nhp, nsl, q⟩ := h
    refine ⟨_, (pss_cons (ps_setLc (i := 5) (own := [("_law_at", 4), ("_law_row", 6)]) (g := gTup K 2 (gCons (gName 4) (gCons (gName 6) gNil))) (te := (tVar 4)) (tt := (tTest (tOp rNe (tOp (rIxT K) (tVar 6) (tC (.int 0))) (tC (.str "keep"))))) (by rfl) sc__law_refusals.nd rfl rfl (sw_true rfl rfl rfl (by decide +kernel)) (pi_enum (by rfl) z.enumerate (pa_cons (pe_ix ix_tup (pv 1) pe_int (fun _ _ => rfl)) pa_nil)) (blkOk_by (own := [("_law_at", 4), ("_law_row", 6)]) (N := ["_law_well_here", "_law_net_here", "_law_made_here", "_law_some", "_law_at", "_law_odd", "_law_row"]) (sc := defScope s__law_refusals) (by decide +kernel)) (fun _ _ _ _ _ => by exact (pg_tup (by rfl) (pgs_cons (pg_name (i := 4) sc__law_refusals.nd rfl (.inl rfl)) (pgs_cons (pg_name (i := 6) sc__law_refusals.nd rfl (.inl rfl)) pgs_nil)))) (fun _ _ _ _ _ => by exact (pts_one (pt_cmpR op_ne (pe_ix ix_tup (pv 6) pe_int (fun _ _ => rfl)) pe_str (nomark _)))) (fun _ _ _ _ _ => by exact (pv 4)))
      (pss_cons (ps_set (i := 5) sc__law_refusals.nd rfl (.inl rfl) (pe_op op_cat (pv 5) (pe_lst (pa_cons (pe_callB call_len_seq (by rfl) z.len PySem.boot_len (pa_cons (pe_ix ix_tup (pv 1) pe_int (fun _ _ => rfl)) pa_nil)) (pa_cons (pe_un un_neg pe_int) (pa_cons pe_non (pa_cons (pe_cmpR op_eq pe_int pe_int (nomark _)) (pa_cons pe_str (pa_cons (pe_tup (pa_cons pe_int pa_nil)) pa_nil)))))))))
      (pss_cons (ps_set (i := 5) sc__law_refusals.nd rfl (.inl rfl) (pe_ix ix_list (pv 5) (pe_cal c__law_draw hr (pa_cons (pv 0) (pa_cons (pe_callB call_len_seq (by rfl) z.len PySem.boot_len (pa_cons (pv 5) pa_nil)) pa_nil))) (fun _ _ => rfl)))
      (pss_cons (ps_set (i := 4) sc__law_refusals.nd rfl (.inl rfl) (pe_cal c__law_draw hr (pa_cons (pv 0) (pa_cons (pe_op op_add (pe_callB call_len_seq (by rfl) z.len PySem.boot_len (pa_cons (pv 3) pa_nil)) pe_int) pa_nil))))
      (pss_one (ps_ret (pe_cal c__law_refused hr (pa_cons (pv 2) (pa_cons (pe_op op_cat (pe_op op_cat (pe_slice sl_list (pv 3) po_none (po_some (pv 4))) (pe_lst (pa_cons (pv 5) pa_nil))) (pe_slice sl_list (pv 3) (po_some (pv 4)) po_none)) pa_nil))))))))), ?_⟩
    obtain ⟨fa, ra, ha, tl0, hhp, _, ⟨rv, hra, tr⟩, _⟩ := id hpp
    obtain ⟨ok, _⟩ := hn H (.of (.refl _))
    have lr := tr.len
    rw [List.length_map] at lr
    have r60 := ok.r2
    refine ⟨_, rfl, hp, _, 2, .ref ra, rfl, rfl, SqT.of hhp, a2, ra, _, rfl, SqL.of hra, fun D hD => ?_⟩
    refine lc_it (walk_enum (K := K) (a := ra) (xs := rv)) (fun i G => Same H G ∧ G D = some (.lst (((List.range i).filter fun i => !kpAt n.rows i).map nI))) ⟨same_new hD, upd_same⟩ (fun i G _ hP => SqL.of (hP.1 _ _ hra)) (fun i v G G' hi hP hY => ?_) (fun G hP => ?_)
    · obtain ⟨s1, hd⟩ := hP
      obtain ⟨Tp, u, v', rfl, nT, rfl, e1, e2⟩ := hY
      cases e1
      obtain ⟨rp, xs, rfl, ex, hrp⟩ := tr.get e2
      rw [List.getElem?_map] at ex
      obtain ⟨r, er, rfl⟩ := Option.map_eq_some_iff.mp ex
      have sN := same_new (o := .tup [.int (i : Nat), .ref rp]) nT
      have S := s1.trans sN
      have ek := kp_of er
      have lt : (((List.range i).filter fun i => !kpAt n.rows i).map nI).length < sizeLine := by
        rw [List.length_map]
        refine sl_lt (Nat.le_trans (List.length_filter_le _ _) ?_)
        rw [List.length_range]
        omega
      refine ⟨Tp, _, rfl, SqT.of upd_same, rfl, _, _, rfl, _, _, rfl, rfl, rfl, ?_⟩
      refine ⟨_, rfl, rp, _, 0, .str r.kd.s, rfl, rfl, SqT.of (S _ _ hrp), atI_nat (j := 0) r.vs0, rfl, _, rfl, ?_⟩
      by_cases k1 : r.kd = .keep
      · refine iteC (d := false) (by rw [k1]; exact congrArg (! ·) (decide_eq_true rfl)) (iteF ⟨S, ?_⟩)
        rw [range_filt, if_neg (by rw [ek, k1]; decide), List.append_nil]
        exact sN _ _ hd
      · refine iteC (d := true) (congrArg (! ·) (decide_eq_false (fun z => kd_ne _ _ k1 (V.str.inj z)))) (iteT ⟨_, rfl, _, sN _ _ hd, lt, fun c o e => ?_, ?_⟩)
        · rw [upd_ne (ne_of_none e hD)]
          exact S _ _ e
        · rw [upd_same, range_filt, if_pos (by rw [ek, kp_no k1]; rfl), List.map_append]
          rfl
    obtain ⟨s1, hd⟩ := hP
    rw [lr] at hd
    have loL : ((List.range n.rows.length).filter fun i => !kpAt n.rows i).length ≤ 60 := by
      refine Nat.le_trans (List.length_filter_le _ _) ?_
      rw [List.length_range]
      exact r60
    have ALL : ∀ i ∈ (List.range n.rows.length).filter (fun i => !kpAt n.rows i), ∀ G2, KeepIs K G2 (nI i) n false := fun i hi G2 => odd_nat0 hi
    generalize (List.range n.rows.length).filter (fun i => !kpAt n.rows i) = os at *
    refine ⟨_, rfl, _, rfl, hp, _, 2, .ref ra, rfl, rfl, SqT.of (s1 _ _ hhp), a2, ra, _, rfl, .inl (SqL.of (s1 _ _ hra)), _, rfl, rfl, (by show 1 ≤ sizeLine; decide), fun tp htp => ?_⟩
    generalize hG3 : upd _ tp _ = G3
    obtain ⟨s3, h_tp⟩ := upd_gen hG3 htp
    refine ⟨(by show 6 ≤ sizeLine; decide), fun l5 hl5 => ?_⟩
    generalize hG5 : upd _ l5 _ = G5
    obtain ⟨s5, h_l5⟩ := upd_gen hG5 hl5
    refine ⟨D, l5, _, _, rfl, rfl, s5 _ _ (s3 _ _ hd), h_l5, (by rw [List.length_map]; exact Nat.le_of_lt (sl_lt (show os.length + 6 ≤ 100000 by omega))), fun l6 hl6 => ?_⟩
    generalize hG6 : upd _ l6 _ = G6
    obtain ⟨s6, h_l6⟩ := upd_gen hG6 hl6
    have S6 := (s1.trans s3).trans (s5.trans s6)
    replace h_tp := s6 _ _ (s5 _ _ h_tp)
    replace h_l6 : G6 l6 = some (.lst (os.map nI ++ [V.int (rv.length : Int), V.int (-1), .non, .bl true, .str "0", .ref tp])) := h_l6
    clear h_l5 hG5 hG6
    obtain ⟨ax, hax⟩ := hw.lst
    have ntp : tp ≠ a := fun e => by rw [e, S6 _ _ hax] at h_tp; cases h_tp
    have nl6 : l6 ≠ a := fun e => by rw [e, ((s1.trans s3).trans s5) _ _ hax] at hl6; cases hl6
    have hw6 := hw.same S6
    have len : (os.map nI ++ [V.int (rv.length : Int), V.int (-1), .non, .bl true, .str "0", .ref tp]).length = os.length + 6 := by rw [List.length_append, List.length_map]; rfl
    have l1 : 0 < os.length + 6 := by omega
    refine ⟨_, rfl, _, rfl, _, rfl, l6, _, rfl, .inl (SqL.of h_l6), a, c, _, rfl, hw6, by omega, by rw [len]; omega, by rw [len]; exact Nat.lt_of_le_of_lt (show _ ≤ 1000 by omega) (by decide +kernel), fun r2 H2 r20 r21 d2 e2 w2 => ?_⟩
    rw [len] at r21
    obtain ⟨j, rfl⟩ : ∃ j : Nat, r2 = j := ⟨r2.toNat, by omega⟩
    have ej := List.getElem?_eq_getElem (show j < (os.map nI ++ [V.int (rv.length : Int), V.int (-1), .non, .bl true, .str "0", .ref tp]).length by rw [len]; omega)
    have ALL2 : ∀ v ∈ os.map nI ++ [V.int (rv.length : Int), V.int (-1), .non, .bl true, .str "0", .ref tp], ∀ G : Hp, G tp = some (.tup [.int 0]) → KeepIs K G v n false := fun v hv G htp2 => by
      rcases List.mem_append.mp hv with hv | hv
      · obtain ⟨i, hi, rfl⟩ := List.mem_map.mp hv
        exact ALL i hi G
      · simp only [List.mem_cons, List.mem_nil_iff, or_false] at hv
        rcases hv with rfl | rfl | rfl | rfl | rfl | rfl
        · exact .inr ⟨.inl ⟨(rv.length : Int), rfl, by rw [lr, decide_eq_false (show ¬ (n.rows.length : Int) < (n.rows.length : Int) by omega), Bool.and_false]⟩, rfl⟩
        · exact .inr ⟨.inl ⟨-1, rfl, rfl⟩, rfl⟩
        · exact .inr ⟨.inr ⟨rfl, fun H' s => .inr (.inr ⟨rfl, _, .base .non, by decide +kernel⟩)⟩, rfl⟩
        · exact .inr ⟨.inr ⟨rfl, fun H' s => .inr (.inl ⟨_, rfl, rfl⟩)⟩, rfl⟩
        · exact .inr ⟨.inr ⟨rfl, fun H' s => .inr (.inr ⟨rfl, _, .base (.str _), by decide +kernel⟩)⟩, rfl⟩
        · exact .inr ⟨.inr ⟨rfl, fun H' s => .inr (.inr ⟨rfl, _, .base (.tup (s _ _ htp2)), by decide +kernel⟩)⟩, rfl⟩
    have KV := ALL2 _ (List.mem_of_getElem? ej)
    generalize (os.map nI ++ [V.int (rv.length : Int), V.int (-1), .non, .bl true, .str "0", .ref tp])[j] = v at *
    have h_l62 := d2 _ _ nl6 h_l6
    have hsl2 := d2 _ _ nsl (S6 _ _ hsl)
    refine ⟨l6, _, _, v, rfl, rfl, SqL.of h_l62, atI_nat ej, ?_⟩
    refine ⟨_, rfl, _, rfl, sl, _, rfl, .inl (SqL.of hsl2), _, _, rfl, rfl, a, c + 1, _, rfl, w2, by omega, by omega, by rw [List.length_map]; exact Nat.lt_of_le_of_lt (show _ ≤ 1000 by omega) (by decide +kernel), fun r3 H3 r30 r31 d3 e3 w3 => ?_⟩
    rw [List.length_map] at r31
    obtain ⟨r, rfl⟩ : ∃ r : Nat, r3 = r := ⟨r3.toNat, by omega⟩
    have hsl3 := d3 _ _ nsl hsl2
    have lk : (ks.map nI).length = ks.length := List.length_map ..
    refine ⟨_, rfl, _, rfl, _, rfl, _, rfl, sl, _, rfl, SqL.of hsl3, fun c1 hc1 => ?_⟩
    rw [cut_to (show r ≤ (ks.map nI).length by omega)]
    generalize hG7 : upd _ c1 _ = G7
    obtain ⟨s7, h_c1⟩ := upd_gen hG7 hc1
    refine ⟨_, rfl, (by show 1 ≤ sizeLine; decide), fun o1 ho1 => ?_⟩
    generalize hG8 : upd _ o1 _ = G8
    obtain ⟨s8, h_o1⟩ := upd_gen hG8 ho1
    have lt : ((ks.map nI).take r).length ≤ 60 := by rw [List.length_take]; omega
    have ld : ((ks.map nI).drop r).length ≤ 60 := by rw [List.length_drop]; omega
    refine ⟨c1, o1, _, _, rfl, rfl, s8 _ _ h_c1, h_o1, Nat.le_of_lt (sl_lt (show _ + 1 ≤ 100000 by omega)), fun c2 hc2 => ?_⟩
    generalize hG9 : upd _ c2 _ = G9
    obtain ⟨s9, h_c2⟩ := upd_gen hG9 hc2
    have S9 := (s7.trans s8).trans s9
    refine ⟨_, rfl, _, rfl, _, rfl, sl, _, rfl, SqL.of (S9 _ _ hsl3), fun c3 hc3 => ?_⟩
    rw [cut_from (show r ≤ (ks.map nI).length by omega)]
    generalize hGa : upd _ c3 _ = Ga
    obtain ⟨sa, h_c3⟩ := upd_gen hGa hc3
    refine ⟨c2, c3, _, _, rfl, rfl, sa _ _ h_c2, h_c3, Nat.le_of_lt (sl_lt (by rw [List.length_append]; show _ + 1 + _ ≤ 100000; omega)), fun c4 hc4 => ?_⟩
    generalize hGb : upd _ c4 _ = Gb
    obtain ⟨sb, h_c4⟩ := upd_gen hGb hc4
    have SB := (S9.trans sa).trans sb
    have sbut : SameBut a H Gb := fun b o nb e => SB _ _ (d3 _ _ nb (d2 _ _ nb (S6 _ _ e)))
    obtain ⟨gx2, hgx2⟩ := hw6.lst
    have htB : Gb tp = some (.tup [.int 0]) := SB _ _ (d3 _ _ ntp (d2 _ _ ntp h_tp))
    have kt : KIs K Gb n ((ks.map nI).take r) ((ks.take r).map fun _ => true) := by
      rw [← List.map_take]
      exact KIs.nats fun k hkk => hk k (List.mem_of_mem_take hkk)
    have kd : KIs K Gb n ((ks.map nI).drop r) ((ks.drop r).map fun _ => true) := by
      rw [← List.map_drop]
      exact KIs.nats fun k hkk => hk k (List.mem_of_mem_drop hkk)
    have KK := (kt.app (KIs.one (KV Gb htB))).app kd
    refine ⟨p, c4, n, _, _, rfl, hn _ sbut, h_c4, ?_, KK, all_no, fun H' sH => q H' (fun b o nb e => sH _ _ (sbut _ _ nb e)) ?_⟩
    · rw [List.length_append, List.length_append, List.length_take, List.length_drop]
      show _ + 1 + _ ≤ 63
      omega
    · exact ((w3.same SB).same sH).mono (by omega)
end
end E1

namespace E1
open PySem PySem.Spec PyProof.Rows L2

theorem NetAt.butW {C CN a p : Addr} {H H' : Hp} {n : NetP} {c : Int} (h : NetAt C CN H p n) (n3 : n.rows.length ≠ 3) (hw : WellAt H a c) (s : SameBut a H H') : NetAt C CN H' p n := by
  obtain ⟨ok, dx, fl, rl, hl, pl, fv, rv, hv, b⟩ := h
  obtain ⟨x, y, z, ha, _⟩ := hw
  have f1 := ok.f1
  have r1 := ok.r1
  refine ⟨ok, dx, fl, rl, hl, pl, fv, rv, hv, s _ _ (ne_of b.ob ha (fun z => nomatch z)) b.ob, s _ _ (fun e => ?_) b.fa, b.fs.butL s ha, s _ _ (fun e => ?_) b.ra, b.rs.but s ha, s _ _ (fun e => ?_) b.ha, b.hs.but s ha, s _ _ (fun e => ?_) b.pa⟩
  · have h1 := b.fa
    rw [e, ha] at h1
    cases h1
    obtain ⟨_, _, e2, _⟩ := b.fs.get (i := 0) rfl
    cases e2
  · have h1 := b.ra
    rw [e, ha] at h1
    cases h1
    obtain ⟨_, _, e2, _⟩ := b.rs.get (i := 0) rfl
    cases e2
  · have h1 := b.ha
    rw [e, ha] at h1
    cases h1
    obtain ⟨_, _, e2, _⟩ := b.hs.get (i := 0) rfl
    cases e2
  · have h1 := b.pa
    rw [e, ha] at h1
    have h2 := congrArg List.length (HO.lst.inj (Option.some.inj h1))
    rw [List.length_map] at h2
    have h3 : n.pts.length = n.rows.length := accL_len _ _
    exact n3 (by rw [← h3, ← h2]; rfl)
theorem TL7.neW {H : Hp} {a b : Addr} {xss : List (List V)} {c : Int} (h : TL7 H b xss) (hw : WellAt H a c) : b ≠ a := fun e => by
  obtain ⟨vs, hb, ts⟩ := h
  obtain ⟨x, y, z, ha, _⟩ := hw
  rw [e, ha] at hb
  cases hb
  obtain ⟨_, _, e2, _⟩ := ts.get (i := 0) rfl
  cases e2
theorem PartsX.butW {a p : Addr} {H H' : Hp} {n : NetP} {c : Int} (h : PartsX H p n) (hw : WellAt H a c) (s : SameBut a H H') : PartsX H' p n := by
  obtain ⟨fa, ra, ha, tl, h1, h2, h3, h4⟩ := h
  obtain ⟨gx, hgx⟩ := hw.lst
  exact ⟨fa, ra, ha, tl, s _ _ (ne_of h1 hgx (fun z => nomatch z)) h1, h2.but s hgx (h2.neW hw), h3.but s hgx (h3.neW hw), h4.but s hgx (h4.neW hw)⟩
theorem cut_to0 {xs : List V} {r : Nat} : cutV xs none (some (r : Int)) = xs.take r := by
  by_cases h : r ≤ xs.length
  · exact cut_to h
  · unfold cutV
    rw [HT.sIx_none, HT.sIx_nat, List.drop_zero, Nat.sub_zero, Nat.min_eq_right (by omega), List.take_length, List.take_of_length_le (by omega)]
def rrNet (fs : List FormP) : NetP := ⟨fs, 0, .inn :: (List.range fs.length).map (fun k => .keep k 0), [], fs.length⟩
theorem rr_len (fs : List FormP) : (rrNet fs).rows.length = fs.length + 1 := by
  show (_ :: _).length = _
  rw [List.length_cons, List.length_map, List.length_range]
theorem rr_row {fs : List FormP} {i : Nat} {r : Row} (e : (rrNet fs).rows[i]? = some r) : (i = 0 ∧ r = .inn) ∨ ∃ k, i = k + 1 ∧ k < fs.length ∧ r = .keep k 0 := by
  cases i with
  | zero =>
    cases e
    exact .inl ⟨rfl, rfl⟩
  | succ k =>
    replace e : ((List.range fs.length).map fun k => Row.keep k 0)[k]? = some r := e
    rw [List.getElem?_map] at e
    obtain ⟨j, ej, rfl⟩ := Option.map_eq_some_iff.mp e
    obtain ⟨l, e2⟩ := List.getElem?_eq_some_iff.mp ej
    rw [List.length_range] at l
    rw [List.getElem_range] at e2
    subst e2
    exact .inr ⟨k, rfl, l, rfl⟩
theorem rr_keep {fs : List FormP} {k : Nat} (h : k < fs.length) : (rrNet fs).rows[k + 1]? = some (.keep k 0) := by
  show ((List.range fs.length).map fun k => Row.keep k 0)[k]? = _
  rw [List.getElem?_map, List.getElem?_range h]
  rfl
theorem rr_kp {fs : List FormP} {i : Nat} (h1 : 1 ≤ i) (h2 : i ≤ fs.length) : kpAt (rrNet fs).rows i = true := by
  obtain ⟨k, rfl⟩ : ∃ k, i = k + 1 := ⟨i - 1, by omega⟩
  unfold kpAt
  rw [rr_keep (by omega)]
theorem rr_ok {fs : List FormP} (h6 : 6 ≤ fs.length) (h12 : fs.length ≤ 12) (fo : ∀ f ∈ fs, f.Ok ∧ -4 ≤ f.pt ∧ f.pt ≤ 5) : NetOk (rrNet fs) := by
  have l := rr_len fs
  have fp : ∀ k, k < fs.length → -200 ≤ (fs.map (·.pt)).getD k 0 ∧ (fs.map (·.pt)).getD k 0 ≤ 200 := fun k hk => by
    rw [List.getD_eq_getElem?_getD, List.getElem?_map, List.getElem?_eq_getElem hk]
    have := fo _ (List.getElem_mem hk)
    show -200 ≤ (fs[k]).pt ∧ (fs[k]).pt ≤ 200
    omega
  refine ⟨by show 1 ≤ fs.length; omega, h12, fun f hf => (fo f hf).1, by show 0 < fs.length; omega, Nat.zero_le _, (fun h hh => nomatch hh), by omega, by omega, fun i r e => ?_, fun p hp => ?_, by rw [l]; exact Nat.lt_succ_self _⟩
  · rcases rr_row e with ⟨rfl, rfl⟩ | ⟨k, rfl, hk, rfl⟩
    · trivial
    · exact ⟨hk, Nat.succ_pos _⟩
  · obtain ⟨i, il, e⟩ := List.getElem_of_mem hp
    replace e := List.getElem?_eq_some_iff.mpr ⟨il, e⟩
    have il2 : i < (rrNet fs).rows.length := by
      have := accL_len (rowPt (fpt fs 0) (hpts (rrNet fs)) (fs.map fun f : FormP => f.pt)) (rrNet fs).rows
      have h3 : (rrNet fs).pts.length = (rrNet fs).rows.length := this
      omega
    have er := List.getElem?_eq_getElem il2
    have ep : (rrNet fs).pts[i]? = _ := accL_at (g := rowPt (fpt fs 0) (hpts (rrNet fs)) (fs.map fun f : FormP => f.pt)) er
    rw [e] at ep
    rw [Option.some.inj ep]
    rcases rr_row er with ⟨_, e3⟩ | ⟨k, _, hk, e3⟩
    · rw [e3]
      exact fp 0 (by omega)
    · rw [e3]
      exact fp k hk
theorem rr_cs {fs : List FormP} {ss : List Nat} (pw : ss.Pairwise (· < ·)) (hk : ∀ i ∈ ss, kpAt (rrNet fs).rows i = true) : (csOf (rrNet fs).rows ss).length = ss.length := by
  have c := csOk (rrNet fs).rows _ ss rfl hk
  have nd : ss.Nodup := pw.imp fun h => Nat.ne_of_lt h
  have nd2 : ((csOf (rrNet fs).rows ss).map (· + 1)).Nodup := by
    refine List.pairwise_map.mpr (c.nd.imp fun h e => h ?_)
    omega
  have p : ((csOf (rrNet fs).rows ss).map (· + 1)).Perm ss := (List.perm_ext_iff_of_nodup nd2 nd).mpr fun i => by
    rw [List.mem_map]
    refine ⟨fun ⟨f, hf, e⟩ => ?_, fun hi => ?_⟩
    · obtain ⟨j, a, hj, er⟩ := c.mem f hf
      rcases rr_row er with ⟨_, e3⟩ | ⟨k, ej, hk, e3⟩
      · cases e3
      · cases e3
        rw [← e, ← ej]
        exact hj
    · obtain ⟨f, a, er⟩ := kp_some (hk i hi)
      refine ⟨f, c.has i hi f a er, ?_⟩
      rcases rr_row er with ⟨_, e3⟩ | ⟨k, ej, hk, e3⟩
      · cases e3
      · cases e3
        exact ej.symm
  have := p.length_eq
  rwa [List.length_map] at this
theorem nodup_sub : ∀ (l s : List Nat), s.Nodup → (∀ x ∈ s, x ∈ l) → s.length ≤ l.length
  | [], s, _, h => by
    cases s with
    | nil => exact Nat.le_refl _
    | cons x t => exact absurd (h x List.mem_cons_self) (fun z => nomatch z)
  | a :: l, s, nd, h => by
    by_cases c : a ∈ s
    · have := nodup_sub l (s.erase a) (nd.erase a) fun x hx => by
        have h2 := (nd.mem_erase_iff).mp hx
        rcases List.mem_cons.mp (h x h2.2) with e | e
        · exact absurd e h2.1
        · exact e
      rw [List.length_erase_of_mem c] at this
      rw [List.length_cons]
      omega
    · have := nodup_sub l s nd fun x hx => by
        rcases List.mem_cons.mp (h x hx) with e | e
        · exact absurd (e ▸ hx) c
        · exact e
      rw [List.length_cons]
      omega
/-- the first so many numbers, turned round -/
def rotN (b m : Nat) : List Nat := (List.range m).map fun k => 1 + (b + k) % m
theorem rot_len (b m : Nat) : (rotN b m).length = m := by
  unfold rotN
  rw [List.length_map, List.length_range]
theorem rot_kp {fs : List FormP} {b : Nat} (h : 0 < fs.length) : ∀ k ∈ rotN b fs.length, kpAt (rrNet fs).rows k = true := fun k hk => by
  obtain ⟨j, _, rfl⟩ := List.mem_map.mp hk
  have := Nat.mod_lt (b + j) h
  exact rr_kp (by omega) (by omega)
theorem rot_int (b m k : Nat) : (1 : Int) + ((b : Int) + (0 + (k : Int))) % (m : Int) = ((1 + (b + k) % m : Nat) : Int) := by
  rw [Int.zero_add, ← Int.natCast_add, ← Int.natCast_emod, Int.natCast_add]
  rfl
def sp40Room (C CN : Addr) : Sp := fun vs H Q _ => ∃ (a : Addr) (c : Int), vs = [.ref a] ∧ WellAt H a c ∧ 0 ≤ c ∧ c ≤ 8000 ∧ ∀ H', SameBut a H H' → WellAt H' a (c + 60) → Q (.bl true) H'
/-- as many as the set holds -/
theorem set_many {ks ss : List Nat} {N : Nat} (pw : ss.Pairwise (· < ·)) (mem : ∀ k, k ∈ ss ↔ k ∈ ks) (h : ∀ s : List Int, s.Nodup → (∀ k, k ∈ s ↔ decide (k ∈ ks.map fun k : Nat => (k : Int)) = true) → s.length = N) : ss.length = N := by
  have := h (ss.map fun k : Nat => (k : Int)) (List.pairwise_map.mpr (pw.imp fun h e => by omega)) fun k => by
    rw [decide_eq_true_eq, List.mem_map, List.mem_map]
    exact ⟨fun ⟨a, h, e⟩ => ⟨a, (mem a).mp h, e⟩, fun ⟨a, h, e⟩ => ⟨a, (mem a).mpr h, e⟩⟩
  rwa [List.length_map] at this
end E1

namespace E1
open PySem PySem.Spec PyProof.Rows L2
section
variable {P : Program} {w : World} {K : PySem.W.Frag} {mg : Str → Option Value} {base : Heap}
theorem sc__law_room_right : FnScope ["_law_well_here", "_law_count", "_law_forms", "_law_net_here", "_law_made_here", "_law_begin", "_law_some", "_law_room", "_law_more", "_law_k"] ["_law_well_here"] (defScope s__law_room_right) := ⟨rfl, rfl, rfl, by decide +kernel, rfl, by decide +kernel, by decide +kernel⟩
theorem ok__law_room_right {f : Addr} {fd : FuncData} {C CN CC CB : Addr} (F : Fun K "_law_room_right" "_law_room_right" s__law_room_right f fd) (z : Zs mg) {fN : Addr} {fdN : FuncData} (okN : FnOk P w K mg base CX0 4 fN fdN ["self", "other"] (spEq (RN C CN))) (ON : OwnQ K CN fN fdN) (c__law_draw : Cal P w K mg base 1 "_law_draw" ["_law_well_here", "_law_many"] spDraw) (c_freed : CalX P w K mg base 8 "freed" ["net", "rows"] [] (spFreedX K C CN CC CB)) (c__law_form : Cal P w K mg base 2 "_law_form" ["_law_well_here", "_law_widths"] sp2Form) (c__law_made : Cal P w K mg base 8 "_law_made" ["_law_net_here"] (spLMade2 C CN)) (c__law_told : Cal P w K mg base 6 "_law_told" ["_law_found", "_law_due_here"] (spTold40 C CN)) (c__law_due : Cal P w K mg base 3 "_law_due" ["_law_net_here", "_law_some"] sp40Due) (c__law_no_room : Cal P w K mg base 9 "_law_no_room" ["_law_made_here", "_law_some"] (sp40NoRoom C CN)) : FnOk P w K mg base CX0 10 f fd ["_law_well_here"] (sp40Room C CN) := by
  refine F.ok sc__law_room_right (fun vs H Q E h => ?_) (fun cdv A outer s H vs Q E hr h => ?_)
  · obtain ⟨a, c, rfl, _⟩ := h
    rfl
  · obtain ⟨a, c, rfl, hw, c0, c9, q⟩ := h
    refine ⟨_, (pss_cons (ps_set (i := 1) sc__law_room_right.nd rfl (.inr rfl) (pe_op op_add pe_int (pe_cal c__law_draw hr (pa_cons (pv 0) (pa_cons pe_int pa_nil)))))
      (pss_cons (ps_setLc (i := 2) (own := [("_law_k", 9)]) (g := gName 9) (tt := tYes) (te := (tCall sp2Form [] E0 (tCons (tVar 0) (tCons (tLst (tCons (tC (.int 3)) (tCons (tC (.int 8)) (tCons (tC (.int 64)) (tCons (tC .non) tNil))))) tNil)))) (by rfl) sc__law_room_right.nd rfl rfl (sw_true rfl rfl rfl (by decide +kernel)) (pi_range1 (by rfl) z.range (pa_cons (pv 1) pa_nil)) (blkOk_by (own := [("_law_k", 9)]) (N := ["_law_well_here", "_law_count", "_law_forms", "_law_net_here", "_law_made_here", "_law_begin", "_law_some", "_law_room", "_law_more", "_law_k"]) (sc := defScope s__law_room_right) (by decide +kernel)) (fun _ _ _ _ _ => by exact (pg_name (i := 9) sc__law_room_right.nd rfl (.inl rfl))) (fun _ _ _ _ _ => by exact pts_nil) (fun _ _ _ _ _ => by exact (pe_cal c__law_form hr (pa_cons (pv 0) (pa_cons (pe_lst (pa_cons pe_int (pa_cons pe_int (pa_cons pe_int (pa_cons pe_non pa_nil))))) pa_nil)))))
      (pss_cons (ps_set (i := 3) sc__law_room_right.nd rfl (.inl rfl) (pe_tup (pa_cons (pv 2) (pa_cons pe_int (pa_cons (pe_op op_cat (pe_lst (pa_cons (pe_tup (pa_cons pe_str pa_nil)) pa_nil)) (pe_lc (own := [("_law_k", 9)]) (g := gName 9) (tt := tYes) (te := (tTup (tCons (tC (.str "keep")) (tCons (tVar 9) (tCons (tC (.int 0)) tNil))))) (by rfl) sc__law_room_right.nd (pi_range1 (by rfl) z.range (pa_cons (pv 1) pa_nil)) (blkOk_by (own := [("_law_k", 9)]) (N := ["_law_well_here", "_law_count", "_law_forms", "_law_net_here", "_law_made_here", "_law_begin", "_law_some", "_law_room", "_law_more", "_law_k"]) (sc := defScope s__law_room_right) (by decide +kernel)) (fun _ _ _ _ _ => by exact (pg_name (i := 9) sc__law_room_right.nd rfl (.inl rfl))) (fun _ _ _ _ _ => by exact pts_nil) (fun _ _ _ _ _ => by exact (pe_tup (pa_cons pe_str (pa_cons (pv 9) (pa_cons pe_int pa_nil))))))) (pa_cons (pe_lst pa_nil) (pa_cons (pv 1) pa_nil)))))))
      (pss_cons (ps_set (i := 4) sc__law_room_right.nd rfl (.inl rfl) (pe_cal c__law_made hr (pa_cons (pv 3) pa_nil)))
      (pss_cons (ps_set (i := 5) sc__law_room_right.nd rfl (.inr rfl) (pe_cal c__law_draw hr (pa_cons (pv 0) (pa_cons (pv 1) pa_nil))))
      (pss_cons (ps_setLc (i := 6) (own := [("_law_k", 9)]) (g := gName 9) (tt := tYes) (te := (tOp (rI0 fun i j => V.int (i + j)) (tC (.int 1)) (tOp (rI (fun _ j => 0 < j) fun i j => V.int (i % j)) (tOp (rI0 fun i j => V.int (i + j)) (tVar 5) (tVar 9)) (tVar 1)))) (by rfl) sc__law_room_right.nd rfl rfl (sw_true rfl rfl rfl (by decide +kernel)) (pi_range1 (by rfl) z.range (pa_cons (pv 1) pa_nil)) (blkOk_by (own := [("_law_k", 9)]) (N := ["_law_well_here", "_law_count", "_law_forms", "_law_net_here", "_law_made_here", "_law_begin", "_law_some", "_law_room", "_law_more", "_law_k"]) (sc := defScope s__law_room_right) (by decide +kernel)) (fun _ _ _ _ _ => by exact (pg_name (i := 9) sc__law_room_right.nd rfl (.inl rfl))) (fun _ _ _ _ _ => by exact pts_nil) (fun _ _ _ _ _ => by exact (pe_op op_add pe_int (pe_op op_mod (pe_op op_add (pv 5) (pv 9)) (pv 1)))))
      (pss_cons (ps_set (i := 7) sc__law_room_right.nd rfl (.inl rfl) (pe_slice sl_list (pv 6) po_none (po_some (pe_op op_sub pe_int (pv 1)))))
      (pss_cons (ps_if (pt_not (pt_val (pe_cal c__law_told hr (pa_cons (pe_calx c_freed hr (pa_cons (pv 4) (pa_cons (pv 7) pa_nil))) (pa_cons (pe_cal c__law_due hr (pa_cons (pv 3) (pa_cons (pv 7) pa_nil))) pa_nil))))) (pss_one (ps_ret pe_bl)) pss_nil)
      (pss_cons (ps_for PassesOwn.never rfl (pi_list (pe_lst (pa_cons (pe_slice sl_list (pv 6) po_none (po_some (pe_op op_sub pe_int (pv 1)))) (pa_cons (pv 6) (pa_cons (pe_op op_cat (pv 6) (pv 6)) pa_nil))))) (pg_name (i := 8) sc__law_room_right.nd rfl (.inl rfl)) (pss_one (ps_if (PW.pt (pw_and (pt_cmpR op_gt (pe_callB cr_lenSet (by rfl) z.len PySem.boot_len (pa_cons (pe_callTy (cr_setL rfl) (by rfl) z.set (by decide +kernel) (pa_cons (pv 8) pa_nil)) pa_nil)) (pe_op op_sub pe_int (pv 1)) (nomark _)) (pw_and1 (pt_not (pt_val (pe_cal c__law_no_room hr (pa_cons (pv 4) (pa_cons (pv 8) pa_nil)))))))) (pss_one (ps_ret pe_bl)) pss_nil)))
      (pss_one (ps_ret (pe_cmpR (op_eqG (rcG_ins okN ON.find ON.fn ON.b pass0) (hr.mono (by decide))) (pv 4) (pe_cal c__law_made hr (pa_cons (pv 3) pa_nil)) (nomark _))))))))))))), ?_⟩
    obtain ⟨ax, hax⟩ := hw.lst
    refine ⟨_, rfl, a, c, 7, rfl, hw, by omega, by decide, by decide +kernel, fun r1 H1 r10 r11 d1 e1 w1 => ?_⟩
    obtain ⟨j, rfl⟩ : ∃ j : Nat, r1 = j := ⟨r1.toNat, by omega⟩
    refine ⟨6, (j : Int), rfl, rfl, ?_⟩
    obtain ⟨m, em, m6, m12⟩ : ∃ m : Nat, (6 : Int) + (j : Int) = m ∧ 6 ≤ m ∧ m ≤ 12 := ⟨6 + j, by omega, by omega, by omega⟩
    dsimp only
    rw [em]
    clear em r10 r11
    obtain ⟨gx1, hgx1⟩ := w1.lst
    refine ⟨_, rfl, m, rfl, by omega, by omega, fun fl hfl => ?_⟩
    have nfl : fl ≠ a := w1.ne hfl
    have ffl : H fl = none := same_free d1 hax hfl nfl
    refine lc_it walk_range (fun i G => SameBut a H G ∧ WellAt G a (c + 1 + 4 * i) ∧ ∃ (fv : List V) (fs : List FormP), G fl = some (.lst fv) ∧ TsAt G fv (fs.map FormP.vs) ∧ fs.length = i ∧ ∀ f ∈ fs, f.Ok ∧ -4 ≤ f.pt ∧ f.pt ≤ 5) ⟨d1.trans (.of (same_new hfl)), (w1.same (same_new hfl)).mono (by omega), [], [], upd_same, .nil, rfl, fun n x => nomatch x⟩ (fun _ _ _ _ => trivial) (fun i x G G' hi hP hY => ?_) (fun G hP => ?_)
    · obtain ⟨sb, wl2, fv, fs, hf, tf, lf, hfo⟩ := hP
      obtain ⟨rfl, rfl⟩ := hY
      have ltf := tf.len
      rw [List.length_map] at ltf
      refine ⟨rfl, _, rfl, (by show 4 ≤ sizeLine; decide), fun wl hwl => ?_⟩
      generalize hG2 : upd _ wl _ = G2
      obtain ⟨s2, h_wl⟩ := upd_gen hG2 hwl
      have nwl : wl ≠ a := wl2.ne hwl
      have wl3 := wl2.same s2
      obtain ⟨gx, hgx⟩ := wl3.lst
      refine ⟨a, wl, [some 3, some 8, some 64, none], c + 1 + 4 * i, rfl, h_wl, by decide, by decide, fun w hw => ?_, wl3, nwl, by omega, by omega, fun f p G3 fok fw p0 p1 s3 w3 np hpn hp2 => ?_⟩
      · intro y e
        subst e
        simp only [List.mem_cons, List.mem_nil_iff, or_false, Option.some.injEq, reduceCtorEq] at hw
        omega
      have hf2 := s3 _ _ nfl (s2 _ _ hf)
      refine ⟨_, hf2, sl_lt (by omega), fun b o n e => ?_, (w3.but SameBut.upd nfl.symm).mono (by omega), fv ++ [.ref p], fs ++ [f], upd_same, ?_, by rw [List.length_append, lf]; rfl, fun x hx => ?_⟩
      · rw [upd_ne (ne_of_none e ffl)]
        exact s3 _ _ n (s2 _ _ (sb _ _ n e))
      · rw [List.map_append]
        exact TsAt.push hf2 ((tf.same s2).but s3 hgx) hp2
      · rcases List.mem_append.mp hx with hx | hx
        · exact hfo x hx
        · rw [List.mem_singleton.mp hx]
          exact ⟨fok, p0, p1⟩
    obtain ⟨sb, wl2, fv, fs, hf, tf, lf, hfo⟩ := hP
    clear d1 w1 e1 hgx1 gx1
    subst lf
    refine ⟨_, rfl, (by show 1 ≤ sizeLine; decide), fun t1 ht1 => ?_⟩
    generalize hG1 : upd _ t1 _ = G1
    obtain ⟨s1, h_t1⟩ := upd_gen hG1 ht1
    refine ⟨(by show 1 ≤ sizeLine; decide), fun l1 hl1 => ?_⟩
    generalize hG2 : upd _ l1 _ = G2
    obtain ⟨s2, h_l1⟩ := upd_gen hG2 hl1
    refine ⟨_, rfl, fs.length, rfl, by omega, by omega, fun kl hkl => ?_⟩
    refine lc_it walk_range (fun i G3 => Same G2 G3 ∧ ∃ kv, G3 kl = some (.lst kv) ∧ TsAt G3 kv (((List.range i).map fun k => Row.keep k 0).map Row.vs)) ⟨same_new hkl, [], upd_same, .nil⟩ (fun _ _ _ _ => trivial) (fun i x G3 G' hi hP hY => ?_) (fun G3 hP => ?_)
    · obtain ⟨s3, kv, hk, tk⟩ := hP
      obtain ⟨rfl, rfl⟩ := hY
      have lk := tk.len
      rw [List.length_map, List.length_map, List.length_range] at lk
      refine ⟨rfl, _, rfl, (by show 3 ≤ sizeLine; decide), fun t ht => ?_⟩
      generalize hG4 : upd _ t _ = G4
      obtain ⟨s4, h_t⟩ := upd_gen hG4 ht
      have hk4 := s4 _ _ hk
      refine ⟨_, hk4, sl_lt (by omega), fun b o e => ?_, kv ++ [.ref t], upd_same, ?_⟩
      · rw [upd_ne (ne_of_none e hkl)]
        exact s4 _ _ (s3 _ _ e)
      · rw [List.range_succ, List.map_append, List.map_append]
        refine TsAt.push hk4 (tk.same s4) ?_
        rw [h_t]
        exact congrArg (fun z => some (HO.tup [V.str "keep", V.int z, V.int 0])) (Int.zero_add _)
    obtain ⟨s3, kv, hk, tk⟩ := hP
    have lk := tk.len
    rw [List.length_map, List.length_map, List.length_range] at lk
    refine ⟨l1, kl, _, _, rfl, rfl, s3 _ _ h_l1, hk, Nat.le_of_lt (sl_lt (show 1 + _ ≤ 100000 by omega)), fun l2 hl2 => ?_⟩
    generalize hG4 : upd _ l2 _ = G4
    obtain ⟨s4, h_l2⟩ := upd_gen hG4 hl2
    refine ⟨(by show 0 ≤ sizeLine; decide), fun hl hhl => ?_⟩
    generalize hG5 : upd _ hl _ = G5
    obtain ⟨s5, h_hl⟩ := upd_gen hG5 hhl
    refine ⟨_, rfl, (by show 5 ≤ sizeLine; decide), fun np hnp => ?_⟩
    generalize hG6 : upd _ np _ = G6
    obtain ⟨s6, h_np⟩ := upd_gen hG6 hnp
    have S5 := ((s1.trans s2).trans s3).trans (s4.trans s5)
    have S6 := S5.trans s6
    have T3 := (s3.trans s4).trans (s5.trans s6)
    have hpp : PartsX G6 np (rrNet fs) := by
      refine ⟨fl, l2, hl, [], h_np, ⟨fv, S6 _ _ hf, tf.same S6⟩, ⟨_, s6 _ _ (s5 _ _ h_l2), ?_⟩, ⟨[], s6 _ _ h_hl, .nil⟩⟩
      exact .cons (T3 _ _ (s2 _ _ h_t1)) (tk.same ((s4.trans s5).trans s6))
    have ok := rr_ok m6 m12 hfo
    refine ⟨_, rfl, np, rrNet fs, rfl, hpp, ok, fun p G7 s7 hn => ?_⟩
    replace hpp := hpp.same s7
    have w7 := (wl2.same S6).same s7
    have SB7 : SameBut a H G7 := sb.trans (.of (S6.trans s7))
    clear s1 s2 s3 s4 s5 s6 s7 S5 S6 T3 h_t1 h_l1 h_l2 h_hl h_np hk tk lk hf tf hfl hkl hl1 hl2 ht1 hhl hnp hG1 hG2 hG4 hG5 hG6 sb
    obtain ⟨gx7, hgx7⟩ := w7.lst
    refine ⟨_, rfl, _, rfl, a, c + 1 + 4 * (fs.length : Int), (fs.length : Int), rfl, w7, by omega, by omega, Nat.lt_of_le_of_lt (show _ ≤ 1000 by omega) (by decide +kernel), fun r2 H2 r20 r21 d2 e2 w2 => ?_⟩
    obtain ⟨b, rfl⟩ : ∃ b : Nat, r2 = b := ⟨r2.toNat, by omega⟩
    replace hn := hn.butW (by rw [rr_len]; omega) w7 d2
    replace hpp := hpp.butW w7 d2
    have SB := SB7.trans d2
    refine ⟨_, rfl, fs.length, rfl, by omega, by omega, fun sl hsl0 => ?_⟩
    refine lc_it walk_range (fun i G => Same H2 G ∧ G sl = some (.lst (((rotN b fs.length).take i).map nI))) ⟨same_new hsl0, upd_same⟩ (fun _ _ _ _ => trivial) (fun i x G G' hi hP hY => ?_) (fun G hP => ?_)
    · obtain ⟨s3, hs⟩ := hP
      obtain ⟨rfl, rfl⟩ := hY
      refine ⟨rfl, _, rfl, _, rfl, _, _, rfl, rfl, _, rfl, _, _, rfl, rfl, (by show (0 : Int) < (fs.length : Int); omega), _, _, rfl, rfl, _, hs, ?_, fun x o e => ?_, ?_⟩
      · rw [List.length_map, List.length_take, rot_len]
        exact sl_lt (by omega)
      · rw [upd_ne (ne_of_none e hsl0)]
        exact s3 _ _ e
      · have er : (rotN b fs.length)[i]? = some (1 + (b + i) % fs.length) := by
          unfold rotN
          rw [List.getElem?_map, List.getElem?_range (show i < fs.length by omega)]
          rfl
        rw [upd_same, List.take_add_one, er, Option.toList_some, List.map_append]
        exact congrArg (fun z => some (HO.lst (_ ++ [V.int z]))) (rot_int b fs.length i)
    obtain ⟨s3, hs⟩ := hP
    rw [List.take_of_length_le (by rw [rot_len]; exact Nat.le_refl _)] at hs
    have hkp := rot_kp (b := b) (fs := fs) (by omega)
    have lrot := rot_len b fs.length
    generalize rotN b fs.length = ks at *
    have r0 : (12 : Int) - (fs.length : Int) = ((12 - fs.length : Nat) : Int) := by omega
    have lks : (ks.map nI).length = fs.length := by rw [List.length_map]; exact lrot
    refine ⟨_, rfl, _, rfl, _, _, rfl, rfl, _, rfl, sl, _, rfl, SqL.of hs, fun rl hrl0 => ?_⟩
    rw [r0, cut_to (show 12 - fs.length ≤ (ks.map nI).length by omega), ← List.map_take]
    generalize hG3 : upd _ rl _ = G3
    obtain ⟨s4, h_rl⟩ := upd_gen hG3 hrl0
    have S3 := s3.trans s4
    have hkt : ∀ k ∈ ks.take (12 - fs.length), kpAt (rrNet fs).rows k = true := fun k hk => hkp k (List.mem_of_mem_take hk)
    have lkt : (ks.take (12 - fs.length)).length ≤ 12 - fs.length := by rw [List.length_take]; omega
    generalize ks.take (12 - fs.length) = kt at *
    have ki := KIs.nats (K := K) (H := G3) hkt
    refine ⟨_, rfl, _, rfl, p, rl, rrNet fs, kt.map nI, kt.map fun _ => true, rfl, hn.same S3, h_rl, by rw [List.length_map]; omega, ki.1, ki.2, (fun z => by rw [all_true] at z; cases z), fun _ => ⟨kt, rfl, hkt, fun ss pw mem => ⟨fun _ pq G4 s5 hnq => ?_, fun big => ?_⟩⟩⟩
    rotate_left
    · have e1 := rr_cs pw fun i hi => hkt i ((mem i).mp hi)
      have e2 := nodup_sub kt ss (pw.imp fun h => Nat.ne_of_lt h) fun x hx => (mem x).mp hx
      have e3 : (rrNet fs).fs.length = fs.length := rfl
      omega
    refine ⟨_, rfl, _, rfl, np, rl, rrNet fs, kt, ss, rfl, hpp.same (S3.trans s5), ok, s5 _ _ h_rl, hkt, pw, mem, fun t G5 s6 htp => ?_⟩
    refine ⟨pq, t, (rrNet fs).freed ss, rfl, hnq.same s6, htp, fun G6 s7 => ⟨_, rfl, iteF ?_⟩⟩
    have S6 := (S3.trans s5).trans (s6.trans s7)
    replace hs : G6 sl = some (.lst (ks.map nI)) := (s4.trans s5).trans (s6.trans s7) _ _ hs
    clear s3 s4 s5 s6 s7 S3 ki hkt lkt htp hnq h_rl hG3 hrl0
    have r13 : (13 : Int) - (fs.length : Int) = ((13 - fs.length : Nat) : Int) := by omega
    refine ⟨_, rfl, _, rfl, _, _, rfl, rfl, _, rfl, sl, _, rfl, SqL.of hs, fun m1 hm1 => ?_⟩
    rw [r13, cut_to0, ← List.map_take]
    generalize hG7 : upd _ m1 _ = G7
    obtain ⟨s7, h_m1⟩ := upd_gen hG7 hm1
    have hs7 := s7 _ _ hs
    refine ⟨_, rfl, _, rfl, _, rfl, sl, sl, _, _, rfl, rfl, hs7, hs7, Nat.le_of_lt (sl_lt (show _ ≤ 100000 by omega)), fun m3 hm3 => ?_⟩
    rw [← List.map_append]
    generalize hG8 : upd _ m3 _ = G8
    obtain ⟨s8, h_m3⟩ := upd_gen hG8 hm3
    refine ⟨(by show 3 ≤ sizeLine; decide), fun L hL => ?_⟩
    generalize hG9 : upd _ L _ = G9
    obtain ⟨s9, h_L⟩ := upd_gen hG9 hL
    have S9 := S6.trans ((s7.trans s8).trans s9)
    have ALL : ∀ v ∈ [V.ref m1, .ref sl, .ref m3], ∃ (l : Addr) (kk : List Nat), v = .ref l ∧ G9 l = some (.lst (kk.map nI)) ∧ kk.length ≤ 24 ∧ ∀ k ∈ kk, kpAt (rrNet fs).rows k = true := fun v hv => by
      simp only [List.mem_cons, List.mem_nil_iff, or_false] at hv
      rcases hv with rfl | rfl | rfl
      · exact ⟨m1, _, rfl, s9 _ _ (s8 _ _ h_m1), by rw [List.length_take]; omega, fun k hk => hkp k (List.mem_of_mem_take hk)⟩
      · exact ⟨sl, ks, rfl, s9 _ _ (s8 _ _ hs7), by omega, hkp⟩
      · exact ⟨m3, _, rfl, s9 _ _ h_m3, by rw [List.length_append]; omega, fun k hk => (List.mem_append.mp hk).elim (hkp k) (hkp k)⟩
    refine ⟨L, rfl, ⟨_, SqL.of h_L⟩, ?_⟩
    refine for_it (walk_list (K := K) (a := L) (xs := [V.ref m1, .ref sl, .ref m3])) (fun i σ G => ∃ y8 : Option V, σ = [some (.ref a), some (.int (fs.length : Int)), some (.ref fl), some (.ref np), some (.ref p), some (.int (b : Int)), some (.ref sl), some (.ref rl), y8, none] ∧ Same G9 G) ⟨none, rfl, .refl _⟩ (fun i σ G _ hP => by obtain ⟨y8, rfl, s⟩ := hP; exact SqL.of (s _ _ h_L)) (fun i v σ G G' hi hP hY => ?_) (fun σ G hP => ?_)
    · obtain ⟨y8, rfl, sg⟩ := hP
      obtain ⟨rfl, hx⟩ := hY
      obtain ⟨l, kk, rfl, hl, l24, hkk⟩ := ALL v (List.mem_of_getElem? hx)
      have hl2 := sg _ _ hl
      refine ⟨_, rfl, l, kk.map fun k : Nat => (k : Int), rfl, (by rw [List.map_map]; exact SqL.of hl2), by rw [List.length_map]; omega, fun sq N hsq _ => ?_⟩
      have sS := same_new (o := SetO w sq (fun j => decide (j ∈ kk.map fun k : Nat => (k : Int))) N) hsq
      refine ⟨sq, _, N, rfl, upd_same, fun many => ?_⟩
      refine ⟨_, rfl, _, _, rfl, rfl, _, _, rfl, rfl, _, rfl, ite2 (fun big => ?_) (fun _ => iteF ⟨_, rfl, sg.trans sS⟩)⟩
      have bg : (12 : Int) - (fs.length : Int) < (N : Int) := of_decide_eq_true big
      refine ⟨_, rfl, _, rfl, p, l, rrNet fs, kk, rfl, hn.same ((S9.trans sg).trans sS), sS _ _ hl2, by omega, hkk, fun ss pw mem => ?_, fun GC sc => ⟨_, rfl, iteF ⟨_, rfl, (sg.trans sS).trans sc⟩⟩⟩
      have e1 := rr_cs pw fun i hi => hkk i ((mem i).mp hi)
      have e2 := set_many pw mem many
      show 12 < fs.length + _
      omega
    · obtain ⟨y8, rfl, sg⟩ := hP
      have SF := S9.trans sg
      refine ⟨_, rfl, _, rfl, np, rrNet fs, rfl, hpp.same SF, ok, fun p2 GA sa hn2 => ?_⟩
      have hn1 := hn.same (SF.trans sa)
      obtain ⟨_, dx1, _, _, _, _, _, _, _, b1⟩ := id hn1
      obtain ⟨_, dx2, _, _, _, _, _, _, _, b2⟩ := id hn2
      refine ⟨⟨p, p2, dx1, dx2, _, _, rfl, rfl, b1.ob, b2.ob, rrNet fs, hn1, hn2⟩, fun GB eb => q GB (fun x o nx e => eb _ _ ((SF.trans sa) _ _ (SB _ _ nx e))) ?_⟩
      exact ((w2.same (SF.trans sa)).same eb).mono (by omega)
end
end E1

namespace E1
open PySem PySem.Spec PyProof.Rows L2
def spLaw (K : PySem.W.Frag) : Sp := fun vs H Q _ => ∃ (a : Addr) (ns : List Int), vs = [.ref a] ∧ SqL K H a (ns.map V.int) ∧ ns.length ≤ 63 ∧ ∀ H', Q (.bl true) H'
theorem cut_cells40 {ns : List Int} : (cutV (ns.map V.int) (some 2) (some 12)).length ≤ 10 ∧ ∀ v ∈ cutV (ns.map V.int) (some 2) (some 12), ∃ c, v = .int c := by
  refine ⟨?_, fun v hv => ?_⟩
  · unfold cutV
    rw [List.length_take]
    refine Nat.le_trans (Nat.min_le_left _ _) ?_
    rw [show (some (12 : Int)) = some ((12 : Nat) : Int) from rfl, show (some (2 : Int)) = some ((2 : Nat) : Int) from rfl, HT.sIx_nat, HT.sIx_nat]
    omega
  · unfold cutV at hv
    have := List.mem_of_mem_drop (List.mem_of_mem_take hv)
    obtain ⟨c, _, rfl⟩ := List.mem_map.mp this
    exact ⟨c, rfl⟩

theorem prs_ints {H : Hp} (xs : List Int) : Prs DFlat (xs.map V.int) (xs.map V.int) H := by
  refine ⟨rfl, fun i x y e1 e2 => ?_⟩
  rw [e1] at e2
  cases e2
  rw [List.getElem?_map] at e1
  obtain ⟨k, _, rfl⟩ := Option.map_eq_some_iff.mp e1
  exact ⟨rfl, rfl, decide_eq_true rfl⟩
theorem prs_nats {H : Hp} (ks : List Nat) : Prs DFlat (ks.map nI) (ks.map nI) H := by
  have := prs_ints (H := H) (ks.map fun k : Nat => (k : Int))
  rwa [List.map_map] at this
theorem freed_len {n : NetP} {ss : List Nat} : (n.freed ss).fs.length = n.fs.length + (csOf n.rows ss).length := by
  show (n.fs ++ _).length = _
  rw [List.length_append, List.length_map]
theorem keeps_few {n : NetP} : (keepsOf n.rows).length ≤ n.rows.length := by
  refine Nat.le_trans (List.length_filter_le _ _) ?_
  rw [List.length_range]
  exact Nat.le_refl _
section
variable {P : Program} {w : World} {K : PySem.W.Frag} {mg : Str → Option Value} {base : Heap}
theorem sc_law : FnScope ["_law_script", "_law_net_here", "_law_made_here", "_law_well_here", "_law_keeps", "_law_some", "_law_handed", "_law_words", "_law_gone_here", "_law_quiet", "_law_free_one", "_law_at", "_law_row", "_law_k", "_law_cell"] ["_law_script"] (defScope s_law) := ⟨rfl, rfl, rfl, by decide +kernel, rfl, by decide +kernel, by decide +kernel⟩
theorem ok_law {f : Addr} {fd : FuncData} {C CN CC CB : Addr} (F : Fun K "law" "law" s_law f fd) (z : Zs mg) {fN : Addr} {fdN : FuncData} (okN : FnOk P w K mg base CX0 4 fN fdN ["self", "other"] (spEq (RN C CN))) (ON : OwnQ K CN fN fdN) (NN : NoNe K CN) (c__law_draw : Cal P w K mg base 1 "_law_draw" ["_law_well_here", "_law_many"] spDraw) (c_freed : CalX P w K mg base 8 "freed" ["net", "rows"] [] (spFreedX K C CN CC CB)) (c__law_cell_at : Cal P w K mg base 1 "_law_cell_at" ["_law_script", "_law_k"] (spCell K)) (c__law_well : Cal P w K mg base 1 "_law_well" ["_law_cell"] spWell) (c__law_net : Cal P w K mg base 6 "_law_net" ["_law_well_here", "_law_widths", "_law_most"] sp2Net) (c__law_made : Cal P w K mg base 8 "_law_made" ["_law_net_here"] (spLMade2 C CN)) (c__law_told : Cal P w K mg base 6 "_law_told" ["_law_found", "_law_due_here"] (spTold40 C CN)) (c__law_due : Cal P w K mg base 3 "_law_due" ["_law_net_here", "_law_some"] sp40Due) (c__law_room_right : Cal P w K mg base 10 "_law_room_right" ["_law_well_here"] (sp40Room C CN)) (c__law_refusals : Cal P w K mg base 10 "_law_refusals" ["_law_well_here", "_law_net_here", "_law_made_here", "_law_some"] (sp40Refs C CN)) (c__law_word : Cal P w K mg base 2 "_law_word" ["_law_form_here", "_law_well_here"] sp2Word) (c__law_gone : Cal P w K mg base 10 "_law_gone" ["_law_made_here", "_law_words"] (sp40Gone C CN)) (c_run_2 : CalD P w K mg base 9 "run" ["net", "words", "state"] [V.non] (spRun C CN)) : FnOk P w K mg base CX0 11 f fd ["_law_script"] (spLaw K) := by
  refine F.ok sc_law (fun vs H Q E h => ?_) (fun cdv A outer s H vs Q E hr h => ?_)
  · obtain ⟨a, ns, rfl, _⟩ := h
    rfl
  · obtain ⟨as, ns, rfl, hS, hlen, q⟩ := h
    refine ⟨_, (pss_cons (ps_set (i := 1) sc_law.nd rfl (.inr rfl) (pe_cal c__law_net hr (pa_cons (pe_cal c__law_well hr (pa_cons (pe_cal c__law_cell_at hr (pa_cons (pv 0) (pa_cons pe_int pa_nil))) pa_nil)) (pa_cons (pe_lst (pa_cons pe_int (pa_cons pe_int (pa_cons pe_int (pa_cons pe_int (pa_cons pe_int (pa_cons pe_non pa_nil))))))) (pa_cons pe_int pa_nil)))))
      (pss_cons (ps_set (i := 2) sc_law.nd rfl (.inl rfl) (pe_cal c__law_made hr (pa_cons (pv 1) pa_nil)))
      (pss_cons (ps_set (i := 3) sc_law.nd rfl (.inr rfl) (pe_cal c__law_well hr (pa_cons (pe_cal c__law_cell_at hr (pa_cons (pv 0) (pa_cons pe_int pa_nil))) pa_nil)))
      (pss_cons (ps_set (i := 4) sc_law.nd rfl (.inr rfl) (pe_lc (own := [("_law_at", 11), ("_law_row", 12)]) (g := gTup K 2 (gCons (gName 11) (gCons (gName 12) gNil))) (te := (tVar 11)) (tt := (tTest (tOp rEq (tOp (rIxT K) (tVar 12) (tC (.int 0))) (tC (.str "keep"))))) (by rfl) sc_law.nd (pi_enum (by rfl) z.enumerate (pa_cons (pe_ix ix_tup (pv 1) pe_int (fun _ _ => rfl)) pa_nil)) (blkOk_by (own := [("_law_at", 11), ("_law_row", 12)]) (N := ["_law_script", "_law_net_here", "_law_made_here", "_law_well_here", "_law_keeps", "_law_some", "_law_handed", "_law_words", "_law_gone_here", "_law_quiet", "_law_free_one", "_law_at", "_law_row", "_law_k", "_law_cell"]) (sc := defScope s_law) (by decide +kernel)) (fun _ _ _ _ _ => by exact (pg_tup (by rfl) (pgs_cons (pg_name (i := 11) sc_law.nd rfl (.inl rfl)) (pgs_cons (pg_name (i := 12) sc_law.nd rfl (.inl rfl)) pgs_nil)))) (fun _ _ _ _ _ => by exact (pts_one (pt_cmpR op_eq (pe_ix ix_tup (pv 12) pe_int (fun _ _ => rfl)) pe_str (nomark _)))) (fun _ _ _ _ _ => by exact (pv 11))))
      (pss_cons (ps_setLc (i := 5) (own := [("_law_k", 13)]) (g := gName 13) (tt := tYes) (te := (tOp (rIxL K) (tVar 4) (tCall spDraw [] E0 (tCons (tVar 3) (tCons (tCB (fun xs H Q => ∃ p ys, xs = [V.ref p] ∧ (SqL K H p ys ∨ SqT K H p ys) ∧ Q (.int ys.length) H) (tCons (tVar 4) tNil)) tNil))))) (by rfl) sc_law.nd rfl rfl (sw_true rfl rfl rfl (by decide +kernel)) (pi_range1 (by rfl) z.range (pa_cons (pe_op op_mul (pe_cal c__law_draw hr (pa_cons (pv 3) (pa_cons pe_int pa_nil))) (pe_callTy call_int1 (by rfl) z.int (by decide +kernel) (pa_cons (pe_cmpR (op_neD hr.units) (pv 4) (pe_lst pa_nil) (nomark _)) pa_nil))) pa_nil)) (blkOk_by (own := [("_law_k", 13)]) (N := ["_law_script", "_law_net_here", "_law_made_here", "_law_well_here", "_law_keeps", "_law_some", "_law_handed", "_law_words", "_law_gone_here", "_law_quiet", "_law_free_one", "_law_at", "_law_row", "_law_k", "_law_cell"]) (sc := defScope s_law) (by decide +kernel)) (fun _ _ _ _ _ => by exact (pg_name (i := 13) sc_law.nd rfl (.inl rfl))) (fun _ _ _ _ _ => by exact pts_nil) (fun _ _ _ _ _ => by exact (pe_ix ix_list (pv 4) (pe_cal c__law_draw hr (pa_cons (pv 3) (pa_cons (pe_callB call_len_seq (by rfl) z.len PySem.boot_len (pa_cons (pv 4) pa_nil)) pa_nil))) (fun _ _ => rfl))))
      (C8.pss_cut (ps_if (pt_cmpR op_eq (pe_cal c__law_draw hr (pa_cons (pv 3) (pa_cons pe_int pa_nil))) pe_int (nomark _)) (pss_one (ps_set (i := 5) sc_law.nd rfl (.inl rfl) (pe_revL (pv 4)))) pss_nil)
      (C8.pss_cut (ps_if (PW.pt (pw_and (pt_cmpR op_eq (pe_cal c__law_draw hr (pa_cons (pv 3) (pa_cons pe_int pa_nil))) pe_int (nomark _)) (pw_and1 (pt_not (pt_val (pe_cal c__law_room_right hr (pa_cons (pv 3) pa_nil))))))) (pss_one (ps_ret pe_bl)) pss_nil)
      (pss_cons (ps_set (i := 6) sc_law.nd rfl (.inl rfl) (pe_callTy call_list_of (by rfl) z.list (by decide +kernel) (pa_cons (pv 5) pa_nil)))
      (pss_cons (ps_if (PW.pt (pw_or (pt_not (pt_val (pe_cal c__law_told hr (pa_cons (pe_calx c_freed hr (pa_cons (pv 2) (pa_cons (pv 6) pa_nil))) (pa_cons (pe_cal c__law_due hr (pa_cons (pv 1) (pa_cons (pv 5) pa_nil))) pa_nil))))) (pw_or1 (pt_cmpR (op_neG (rcNe_list mon_flat eqG_flat) (hr.mono (by decide))) (pv 6) (pv 5) (nomark _))))) (pss_one (ps_ret pe_bl)) pss_nil)
      (pss_cons (ps_if (PW.pt (pw_or (pt_not (pt_val (pe_cal c__law_refusals hr (pa_cons (pv 3) (pa_cons (pv 1) (pa_cons (pv 2) (pa_cons (pv 5) pa_nil))))))) (pw_or1 (pt_cmpR (op_neG (rcNe_ins NN okN ON.find ON.fn ON.b) (hr.mono (by decide))) (pv 2) (pe_cal c__law_made hr (pa_cons (pv 1) pa_nil)) (nomark _))))) (pss_one (ps_ret pe_bl)) pss_nil)
      (pss_cons (ps_setLc (i := 7) (own := [("_law_cell", 14)]) (g := gName 14) (tt := tYes) (te := (tCall sp2Word [] E0 (tCons (tOp (rIxL K) (tOp (rIxT K) (tVar 1) (tC (.int 0))) (tOp (rIxT K) (tVar 1) (tC (.int 1)))) (tCons (tCall spWell [] E0 (tCons (tVar 14) tNil)) tNil)))) (by rfl) sc_law.nd rfl rfl (sw_true rfl rfl rfl (by decide +kernel)) (pi_list (pe_op op_cat (pe_slice sl_list (pv 0) (po_some pe_int) (po_some pe_int)) (pe_lst (pa_cons pe_int (pa_cons pe_int pa_nil))))) (blkOk_by (own := [("_law_cell", 14)]) (N := ["_law_script", "_law_net_here", "_law_made_here", "_law_well_here", "_law_keeps", "_law_some", "_law_handed", "_law_words", "_law_gone_here", "_law_quiet", "_law_free_one", "_law_at", "_law_row", "_law_k", "_law_cell"]) (sc := defScope s_law) (by decide +kernel)) (fun _ _ _ _ _ => by exact (pg_name (i := 14) sc_law.nd rfl (.inl rfl))) (fun _ _ _ _ _ => by exact pts_nil) (fun _ _ _ _ _ => by exact (pe_cal c__law_word hr (pa_cons (pe_ix ix_list (pe_ix ix_tup (pv 1) pe_int (fun _ _ => rfl)) (pe_ix ix_tup (pv 1) pe_int (fun _ _ => rfl)) (fun _ _ => rfl)) (pa_cons (pe_cal c__law_well hr (pa_cons (pv 14) pa_nil)) pa_nil)))))
      (pss_cons (ps_set (i := 8) sc_law.nd rfl (.inr rfl) (pe_cal c__law_gone hr (pa_cons (pv 2) (pa_cons (pv 7) pa_nil))))
      (pss_cons (ps_setLc (i := 9) (own := [("_law_at", 11)]) (g := gName 11) (te := (tVar 11)) (tt := (tTest (tOp (rIn K true) (tVar 11) (tVar 8)))) (by rfl) sc_law.nd rfl rfl (sw_true rfl rfl rfl (by decide +kernel)) (pi_list (pv 5)) (blkOk_by (own := [("_law_at", 11)]) (N := ["_law_script", "_law_net_here", "_law_made_here", "_law_well_here", "_law_keeps", "_law_some", "_law_handed", "_law_words", "_law_gone_here", "_law_quiet", "_law_free_one", "_law_at", "_law_row", "_law_k", "_law_cell"]) (sc := defScope s_law) (by decide +kernel)) (fun _ _ _ _ _ => by exact (pg_name (i := 11) sc_law.nd rfl (.inl rfl))) (fun _ _ _ _ _ => by exact (pts_one (pt_cmpR op_notIn_seq (pv 11) (pv 8) (by rfl)))) (fun _ _ _ _ _ => by exact (pv 11)))
      (pss_cons (ps_if (PW.pt (pw_or (pt_cmpR (op_neG (rcNe_list mon_flat eqG_flat) (hr.mono (by decide))) (pe_cald c_run_2 hr (pa_cons (pe_calx c_freed hr (pa_cons (pv 2) (pa_cons (pv 9) pa_nil))) (pa_cons (pv 7) pa_nil))) (pe_cald c_run_2 hr (pa_cons (pv 2) (pa_cons (pv 7) pa_nil))) (nomark _)) (pw_or1 (pt_cmpR (op_neG (rcNe_ins NN okN ON.find ON.fn ON.b) (hr.mono (by decide))) (pe_calx c_freed hr (pa_cons (pv 2) (pa_cons (pe_lst pa_nil) pa_nil))) (pv 2) (nomark _))))) (pss_one (ps_ret pe_bl)) pss_nil)
      (pss_cons (ps_set (i := 10) sc_law.nd rfl (.inl rfl) (pe_calx c_freed hr (pa_cons (pv 2) (pa_cons (pv 4) pa_nil))))
      (pss_cons (ps_if (PW.pt (pw_or (pt_cmpR (op_neG (rcNe_list mon_flat eqG_flat) (hr.mono (by decide))) (pe_cal c__law_gone hr (pa_cons (pv 10) (pa_cons (pv 7) pa_nil))) (pe_lst pa_nil) (nomark _)) (pw_or1 (pt_cmpR (op_neG (rcNe_ins NN okN ON.find ON.fn ON.b) (hr.mono (by decide))) (pv 2) (pe_cal c__law_made hr (pa_cons (pv 1) pa_nil)) (nomark _))))) (pss_one (ps_ret pe_bl)) pss_nil)
      (pss_one (ps_ret (pe_cmpR (op_eqG (rcG_list mon_flat eqG_flat) (hr.mono (by decide))) (pe_cald c_run_2 hr (pa_cons (pe_calx c_freed hr (pa_cons (pv 10) (pa_cons (pv 5) pa_nil))) (pa_cons (pv 7) pa_nil))) (pe_cald c_run_2 hr (pa_cons (pv 10) (pa_cons (pv 7) pa_nil))) (nomark _)))))))))))))))))))), ?_⟩
    refine ⟨_, rfl, as, ns, 0, rfl, hS, _, rfl, fun aw ha0 H1 s1 k1 => ⟨(by show 6 ≤ sizeLine; decide), fun wl hwl => ?_⟩⟩
    generalize hG2 : upd _ wl _ = G2
    obtain ⟨s2, h_wl⟩ := upd_gen hG2 hwl
    have nwa : wl ≠ aw := k1.ne hwl
    refine ⟨aw, wl, [some 2, some 3, some 4, some 8, some 64, none], 12, rfl, k1.same s2, h_wl, by decide, by decide, fun w hw => ?_, nwa, by decide, by decide, fun n pa H3 nok hfw f3 hst l40 sb3 hpa0 npa hpp6 => ?_⟩
    · intro y e
      subst e
      simp only [List.mem_cons, List.mem_nil_iff, or_false, Option.some.injEq, reduceCtorEq] at hw
      omega
    have s3 : Same H H3 := same_but (s1.trans s2) sb3 ha0
    have hpp := hpp6.x
    refine ⟨_, rfl, pa, n, rfl, hpp, nok, fun p1 H4 s4 hn => ?_⟩
    replace hpp := hpp.same s4
    have S4 := s3.trans s4
    have r60 := nok.r2
    clear s1 s2 s3 s4 sb3 k1 h_wl hwl nwa hpa0 npa ha0 hG2 hpp6
    refine ⟨_, rfl, as, ns, 1, rfl, Same.sqL S4 hS, _, rfl, fun a ha0 H5 s5 k5 => ?_⟩
    obtain ⟨fa, ra, ha, tl0, hhp, ⟨fv, hfa, tf⟩, ⟨rv, hra, tr⟩, _⟩ := id hpp
    have lr := tr.len
    rw [List.length_map] at lr
    refine ⟨_, rfl, pa, _, 2, .ref ra, rfl, rfl, SqT.of (s5 _ _ hhp), a2, ra, _, rfl, SqL.of (s5 _ _ hra), fun kl hkl0 => ?_⟩
    have nkl : kl ≠ a := k5.ne hkl0
    refine lc_it (walk_enum (K := K) (a := ra) (xs := rv)) (fun i G => Same H5 G ∧ G kl = some (.lst (((List.range i).filter (kpAt n.rows)).map nI))) ⟨same_new hkl0, upd_same⟩ (fun i G _ hP => SqL.of (hP.1 _ _ (s5 _ _ hra))) (fun i v G G' hi hP hY => ?_) (fun G hP => ?_)
    · obtain ⟨s1, hd⟩ := hP
      obtain ⟨Tp, u, v', rfl, nT, rfl, e1, e2⟩ := hY
      cases e1
      obtain ⟨rp, xs, rfl, ex, hrp⟩ := tr.get e2
      rw [List.getElem?_map] at ex
      obtain ⟨r, er, rfl⟩ := Option.map_eq_some_iff.mp ex
      have sN := same_new (o := .tup [.int (i : Nat), .ref rp]) nT
      have S := s1.trans sN
      have ek := kp_of er
      have lt : (((List.range i).filter (kpAt n.rows)).map nI).length < sizeLine := by
        rw [List.length_map]
        refine sl_lt (Nat.le_trans (List.length_filter_le _ _) ?_)
        rw [List.length_range]
        omega
      refine ⟨Tp, _, rfl, SqT.of upd_same, rfl, _, _, rfl, _, _, rfl, rfl, rfl, ?_⟩
      refine ⟨_, rfl, rp, _, 0, .str r.kd.s, rfl, rfl, SqT.of (S _ _ (s5 _ _ hrp)), atI_nat (j := 0) r.vs0, rfl, _, rfl, ?_⟩
      by_cases k1 : r.kd = .keep
      · refine iteC (d := true) (by rw [k1]; exact decide_eq_true rfl) (iteT ⟨_, rfl, _, sN _ _ hd, lt, fun c o e => ?_, ?_⟩)
        · rw [upd_ne (ne_of_none e hkl0)]
          exact S _ _ e
        · rw [upd_same, range_filt, ek, k1, if_pos (show Kd7.keep.isKp = true from rfl), List.map_append]
          rfl
      · refine iteC (d := false) (decide_eq_false (fun z => kd_ne _ _ k1 (V.str.inj z))) (iteF ⟨S, ?_⟩)
        rw [range_filt, ek, kp_no k1, if_neg (by decide), List.append_nil]
        exact sN _ _ hd
    obtain ⟨s6, hkl⟩ := hP
    rw [lr] at hkl
    replace hkl : G kl = some (.lst ((keepsOf n.rows).map nI)) := hkl
    have kf := keeps_few (n := n)
    have SB : Same H4 G := s5.trans s6
    have w1 : WellAt G a 0 := k5.same s6
    clear s5 s6 k5
    refine ⟨_, rfl, a, 0, 5, rfl, w1, by omega, by decide, by decide +kernel, fun r1 H6 r10 r11 d1 e1 w2 => ?_⟩
    replace hkl := d1 _ _ nkl hkl
    replace SB : Same H4 H6 := same_but SB d1 ha0
    clear d1 e1 w1
    refine ⟨_, rfl, (by show 0 ≤ sizeLine; decide), fun zl hzl => ?_⟩
    generalize hG7 : upd _ zl _ = G7
    obtain ⟨s7, h_z⟩ := upd_gen hG7 hzl
    replace hkl := s7 _ _ hkl
    replace SB := SB.trans s7
    have w3 := w2.same s7
    clear hG7 s7 w2
    obtain ⟨e, ee, e1, e0⟩ : ∃ e : Nat, (if (!PyData.eqv (.list (((keepsOf n.rows).map fun n : Nat => (n : Int)).map PyData.int)) (.list (([] : List Int).map PyData.int))) = true then (1 : Int) else 0) = e ∧ e ≤ 1 ∧ (keepsOf n.rows = [] → e = 0) := by
      split
      · rename_i hh
        exact ⟨1, rfl, by omega, fun z => by rw [z] at hh; exact absurd hh (by decide +kernel)⟩
      · exact ⟨0, rfl, by omega, fun _ => rfl⟩
    refine ⟨.list (((keepsOf n.rows).map fun n : Nat => (n : Int)).map PyData.int), .list (([] : List Int).map PyData.int), .lst (SqL.of hkl) (dp_nats _), .lst (SqL.of h_z) .nil, PySem.W.ke_shaped_ints _, PySem.W.ke_shaped_ints _, .inr ⟨_, rfl, _, _, rfl, rfl, .inl ⟨by omega, by omega⟩, ?_⟩⟩
    dsimp only
    rw [ee]
    clear ee
    obtain ⟨cn, ecn, cn4, cn0⟩ : ∃ cn : Nat, r1 * (e : Int) = cn ∧ cn ≤ 4 ∧ (keepsOf n.rows = [] → cn = 0) := by
      rcases Nat.le_one_iff_eq_zero_or_eq_one.mp e1 with rfl | rfl
      · exact ⟨0, by omega, by omega, fun _ => rfl⟩
      · exact ⟨r1.toNat, by omega, by omega, fun z => by have := e0 z; omega⟩
    rw [ecn]
    clear ecn e0 e1 h_z hzl
    refine ⟨cn, rfl, by omega, by omega, fun sl hsl0 => ?_⟩
    have nsl : sl ≠ a := w3.ne hsl0
    refine lc_it walk_range (fun i G => Same H4 G ∧ WellAt G a (1 + i) ∧ G kl = some (.lst ((keepsOf n.rows).map nI)) ∧ ∃ ks : List Nat, G sl = some (.lst (ks.map nI)) ∧ ks.length = i ∧ ∀ k ∈ ks, kpAt n.rows k = true) ⟨SB.trans (same_new hsl0), (w3.same (same_new hsl0)).mono (by omega), same_new hsl0 _ _ hkl, [], upd_same, rfl, (fun k hk => nomatch hk)⟩ (fun _ _ _ _ => trivial) (fun i x G2 G' hi hP hY => ?_) (fun G2 hP => ?_)
    · obtain ⟨sG, wG, hkG, ks, hs, lks, hks⟩ := hP
      obtain ⟨rfl, rfl⟩ := hY
      have ne : keepsOf n.rows ≠ [] := fun z => by have := cn0 z; omega
      have pos := List.length_pos_iff.mpr ne
      obtain ⟨gx, hgx⟩ := wG.lst
      have lkn : ((keepsOf n.rows).map nI).length = (keepsOf n.rows).length := List.length_map ..
      refine ⟨rfl, _, rfl, _, rfl, _, rfl, kl, _, rfl, .inl (SqL.of hkG), a, 1 + (i : Int), _, rfl, wG, by omega, by omega, Nat.lt_of_le_of_lt (show _ ≤ 1000 by omega) (by decide +kernel), fun r2 G3 r20 r21 d2 _ w2 => ?_⟩
      obtain ⟨j, rfl⟩ : ∃ j : Nat, r2 = j := ⟨r2.toNat, by omega⟩
      have ej := List.getElem?_eq_getElem (show j < (keepsOf n.rows).length by omega)
      have hs2 := d2 _ _ nsl hs
      refine ⟨kl, _, _, nI (keepsOf n.rows)[j], rfl, rfl, SqL.of (d2 _ _ nkl hkG), atI_nat (j := j) (by rw [List.getElem?_map, ej]; rfl), ?_⟩
      have ffl : H4 sl = none := SB.free hsl0
      have nslk : kl ≠ sl := ne_of_none hkl hsl0
      refine ⟨_, hs2, sl_lt (by rw [List.length_map]; omega), fun b o e => ?_, (w2.but SameBut.upd nsl.symm).mono (by omega), ?_, ks ++ [(keepsOf n.rows)[j]], ?_, by rw [List.length_append, lks]; rfl, fun k hk => ?_⟩
      · rw [upd_ne (ne_of_none e ffl)]
        exact same_but sG d2 ha0 _ _ e
      · rw [upd_ne nslk]
        exact d2 _ _ nkl hkG
      · rw [upd_same, List.map_append]
        rfl
      · rcases List.mem_append.mp hk with hk | hk
        · exact hks k hk
        · rw [List.mem_singleton.mp hk]
          exact (List.mem_filter.mp (List.getElem_mem (show j < (keepsOf n.rows).length by omega))).2
    obtain ⟨sG, wG, hkG, ks, hs, lks, hks⟩ := hP
    clear SB w3 hkl hsl0 cn0 r10 r11
    refine ⟨fun σ G => ∃ (sl : Addr) (ks : List Nat), σ = [some (.ref as), some (.ref pa), some (.ref p1), some (.ref a), some (.ref kl), some (.ref sl), none, none, none, none, none, none, none, none, none] ∧ Same H4 G ∧ WellAt G a 20 ∧ G kl = some (.lst ((keepsOf n.rows).map nI)) ∧ G sl = some (.lst (ks.map nI)) ∧ ks.length ≤ 60 ∧ (∀ k ∈ ks, kpAt n.rows k = true) ∧ sl ≠ a, ?_, fun σ G hM => ?_⟩
    · refine ⟨_, rfl, a, 1 + (cn : Int), 4, rfl, wG, by omega, by decide, by decide +kernel, fun r2 G3 r20 r21 d2 _ w2 => ⟨rfl, _, rfl, ite2 (fun _ => ?_) (fun _ => ?_)⟩⟩
      · refine ⟨_, rfl, kl, _, rfl, SqL.of (d2 _ _ nkl hkG), fun rv2 hrv2 => ?_⟩
        generalize hG9 : upd _ rv2 _ = G9
        obtain ⟨s9, h_r⟩ := upd_gen hG9 hrv2
        rw [← List.map_reverse] at h_r
        exact ⟨rv2, _, rfl, (same_but sG d2 ha0).trans s9, (w2.same s9).mono (by omega), s9 _ _ (d2 _ _ nkl hkG), h_r, by rw [List.length_reverse]; omega, fun k hk => (List.mem_filter.mp (List.mem_reverse.mp hk)).2, w2.ne hrv2⟩
      · exact ⟨sl, ks, rfl, same_but sG d2 ha0, w2.mono (by omega), d2 _ _ nkl hkG, d2 _ _ nsl hs, by omega, hks, nsl⟩
    clear sG wG hkG hs lks hks nsl
    obtain ⟨sl, ks, rfl, SB, w1, hkl, hsl, l60, hks, nsl⟩ := hM
    refine ⟨fun σ G => σ = [some (.ref as), some (.ref pa), some (.ref p1), some (.ref a), some (.ref kl), some (.ref sl), none, none, none, none, none, none, none, none, none] ∧ Same H4 G ∧ WellAt G a 100 ∧ G kl = some (.lst ((keepsOf n.rows).map nI)) ∧ G sl = some (.lst (ks.map nI)), ?_, fun σ G hM => ?_⟩
    · refine ⟨_, rfl, a, 20, 3, rfl, w1, by decide, by decide, by decide +kernel, fun r2 G3 r20 r21 d2 _ w2 => ⟨rfl, _, rfl, ite2 (fun _ => ?_) (fun _ => iteF ⟨rfl, same_but SB d2 ha0, w2.mono (by omega), d2 _ _ nkl hkl, d2 _ _ nsl hsl⟩)⟩⟩
      refine ⟨_, rfl, a, 21, rfl, w2, by decide, by decide, fun H6 d6 w6 => ⟨_, rfl, iteF ⟨rfl, same_but (same_but SB d2 ha0) d6 ha0, w6.mono (by omega), d6 _ _ nkl (d2 _ _ nkl hkl), d6 _ _ nsl (d2 _ _ nsl hsl)⟩⟩⟩
    clear SB w1 hkl hsl
    obtain ⟨rfl, SB, w1, hkl, hsl⟩ := hM
    have npa : pa ≠ a := fun e => by rw [e, ha0] at hhp; cases hhp
    refine ⟨_, rfl, sl, _, rfl, .inl (SqL.of hsl), fun hl hhl0 => ?_⟩
    generalize hG1 : upd _ hl _ = G1
    obtain ⟨s1, h_hl⟩ := upd_gen hG1 hhl0
    have S1 := SB.trans s1
    have ki := KIs.nats (K := K) (H := G1) hks
    have lkk : (ks.map nI).length = ks.length := List.length_map ..
    refine ⟨_, rfl, _, rfl, p1, hl, n, ks.map nI, ks.map fun _ => true, rfl, hn.same S1, h_hl, by omega, ki.1, ki.2, (fun z => by rw [all_true] at z; cases z), fun _ => ⟨ks, rfl, hks, fun ss pw mem => ⟨fun _ pq G4 s5 hnq => ?_, fun big => ?_⟩⟩⟩
    rotate_left
    · have := freed_few (ss := ss) nok fun i hi => hks i ((mem i).mp hi)
      omega
    refine ⟨_, rfl, _, rfl, pa, sl, n, ks, ss, rfl, hpp.same (S1.trans s5), nok, s5 _ _ (s1 _ _ hsl), hks, pw, mem, fun t G5 s6 htp => ?_⟩
    refine ⟨pq, t, n.freed ss, rfl, hnq.same s6, htp, fun G6 s7 => ⟨_, rfl, iteF ?_⟩⟩
    have T7 := s5.trans (s6.trans s7)
    refine ⟨_, rfl, _, rfl, ⟨hl, sl, _, _, rfl, rfl, T7 _ _ h_hl, T7 _ _ (s1 _ _ hsl), prs_nats ks⟩, fun G7 e7 => ⟨_, rfl, iteF ?_⟩⟩
    have T8 : Same G G7 := fun b o e => e7 _ _ (T7 _ _ (s1 _ _ e))
    replace SB := SB.trans T8
    replace hsl := T8 _ _ hsl
    replace hkl := T8 _ _ hkl
    replace w1 := w1.same T8
    clear T7 T8 e7 s5 s6 s7 htp hnq S1 ki h_hl hG1 s1 hhl0 mem pw
    refine ⟨_, rfl, _, rfl, _, rfl, _, rfl, a, pa, p1, sl, n, ks, 100, rfl, w1, by decide, by decide, hpp.same SB, fun H' sb => hn.same (same_but SB sb ha0), hsl, l60, hks, npa, nsl, fun G8 d8 w8 => ⟨_, rfl, iteF ?_⟩⟩
    replace SB := same_but SB d8 ha0
    replace hsl := d8 _ _ nsl hsl
    replace hkl := d8 _ _ nkl hkl
    clear d8 w8 w1 nsl nkl npa
    refine ⟨_, rfl, _, rfl, pa, n, rfl, hpp.same SB, nok, fun p2 GA sa hn2 => ?_⟩
    have hn1 := hn.same (SB.trans sa)
    obtain ⟨_, dx1, _, _, _, _, _, _, _, b1⟩ := id hn1
    obtain ⟨_, dx2, _, _, _, _, _, _, _, b2⟩ := id hn2
    refine ⟨⟨p1, p2, dx1, dx2, _, _, rfl, rfl, b1.ob, b2.ob, n, hn1, hn2⟩, fun GB eb => ⟨_, rfl, iteF ?_⟩⟩
    have T9 : Same G8 GB := fun b o e => eb _ _ (sa _ _ e)
    replace SB := SB.trans T9
    replace hsl := T9 _ _ hsl
    replace hkl := T9 _ _ hkl
    clear T9 eb sa hn1 hn2 b1 b2
    obtain ⟨cl10, clI⟩ := cut_cells40 (ns := ns)
    refine ⟨_, rfl, _, rfl, _, rfl, as, _, rfl, Same.sqL (S4.trans SB) hS, fun cs hcs => ?_⟩
    generalize hGc : upd _ cs _ = G1
    obtain ⟨s9, h_cs⟩ := upd_gen hGc hcs
    refine ⟨(by show 2 ≤ sizeLine; decide), fun l3 hl3 => ?_⟩
    generalize hG5 : upd _ l3 _ = G2
    obtain ⟨s10, h_l3⟩ := upd_gen hG5 hl3
    refine ⟨cs, l3, _, _, rfl, rfl, s10 _ _ h_cs, h_l3, Nat.le_of_lt (sl_lt (show _ + 2 ≤ 100000 by omega)), fun l4 hl4 => ?_⟩
    generalize hGl : upd _ l4 _ = G3
    obtain ⟨s11, h_l4⟩ := upd_gen hGl hl4
    have T11 := (s9.trans s10).trans s11
    replace SB := SB.trans T11
    replace hsl := T11 _ _ hsl
    replace hkl := T11 _ _ hkl
    have ALL : ∀ v ∈ cutV (ns.map V.int) (some 2) (some 12) ++ [V.int 0, V.int 1], ∃ c : Int, v = .int c := fun v hv => by
      rcases List.mem_append.mp hv with hv | hv
      · exact clI v hv
      · simp only [List.mem_cons, List.mem_nil_iff, or_false] at hv
        rcases hv with rfl | rfl <;> exact ⟨_, rfl⟩
    have len12 : (cutV (ns.map V.int) (some 2) (some 12) ++ [V.int 0, V.int 1]).length ≤ 12 := by
      rw [List.length_append]
      show _ + 2 ≤ 12
      omega
    generalize cutV (ns.map V.int) (some 2) (some 12) ++ [V.int 0, V.int 1] = cells at *
    clear s9 s10 s11 h_cs h_l3 clI cl10 T11 hcs hl3 hl4 hGc hG5 hGl
    have efr := frm_get nok.en
    obtain ⟨fp, ep, hfp⟩ := tf.at (i := n.en) (xs := (frm n.fs n.en).vs) (by rw [List.getElem?_map, efr]; rfl)
    have fo : (frm n.fs n.en).Ok := nok.fo _ (frm_at0 nok.en)
    refine ⟨l4, rfl, ⟨_, SqL.of h_l4⟩, fun wl hwl0 => ?_⟩
    refine lc_it (walk_list (K := K) (a := l4) (xs := cells)) (fun i G => Same G3 G ∧ ∃ xs : List Int, G wl = some (.lst (xs.map V.int)) ∧ xs.length = i ∧ ∀ x ∈ xs, inR (frm n.fs n.en).w x = true ∧ x.natAbs < 2 ^ 110) ⟨same_new hwl0, [], upd_same, rfl, (fun x hx => nomatch hx)⟩ (fun i G _ hP => SqL.of (hP.1 _ _ h_l4)) (fun i v G G' hi hP hY => ?_) (fun G hP => ?_)
    · obtain ⟨s7, xs, hw, lw, hxs⟩ := hP
      obtain ⟨rfl, hx⟩ := hY
      obtain ⟨c, rfl⟩ := ALL v (List.mem_of_getElem? hx)
      have SG := SB.trans s7
      refine ⟨rfl, _, rfl, pa, _, 0, .ref fa, rfl, rfl, SqT.of (SG _ _ hhp), a0, _, rfl, pa, _, 1, .int n.en, rfl, rfl, SqT.of (SG _ _ hhp), a1, fa, _, _, .ref fp, rfl, rfl, SqL.of (SG _ _ hfa), atI_nat ep, _, rfl, c, rfl, fun w2 hw2 J1 q1 k1 => ?_⟩
      refine ⟨w2, fp, frm n.fs n.en, 0, rfl, q1 _ _ (SG _ _ hfp), fo, k1, by decide, by decide, fun x J2 xin xz sbb w3 => ?_⟩
      have q2 : Same G' J2 := same_but q1 sbb hw2
      refine ⟨_, q2 _ _ hw, sl_lt (by rw [List.length_map]; omega), fun b o e => ?_, xs ++ [x], ?_, by rw [List.length_append, lw]; rfl, fun y hy => ?_⟩
      · rw [upd_ne (ne_of_none e hwl0)]
        exact q2 _ _ (s7 _ _ e)
      · rw [upd_same, List.map_append]
        rfl
      · rcases List.mem_append.mp hy with hy | hy
        · exact hxs y hy
        · rw [List.mem_singleton.mp hy]
          exact ⟨xin, xz⟩
    obtain ⟨s7, xs, hw, lw, hxs⟩ := hP
    replace SB := SB.trans s7
    replace hsl := s7 _ _ hsl
    replace hkl := s7 _ _ hkl
    have x12 : xs.length ≤ 12 := by omega
    clear s7 lw len12 ALL h_l4 hwl0 ep hfp efr fo
    have st0 : ∀ k ∈ starts n, k.natAbs < 2 ^ 110 := fun k hk => by
      obtain ⟨hh, hm, rfl⟩ := List.mem_map.mp hk
      exact hst hh hm
    have hin : ∀ x ∈ xs, inR (frm n.fs n.en).w x = true := fun x hx => (hxs x hx).1
    have xbd : ∀ x ∈ xs, x.natAbs < 2 ^ 110 := fun x hx => (hxs x hx).2
    have ro := run_small nok l40 st0 xbd x12
    refine ⟨_, rfl, _, rfl, p1, wl, n, xs, rfl, hn.same SB, hw, hin, ro, x12, fun gl GG sg h_gl => ?_⟩
    replace SB := SB.trans sg
    replace hsl := sg _ _ hsl
    replace hkl := sg _ _ hkl
    replace hw := sg _ _ hw
    clear sg
    refine ⟨_, rfl, sl, rfl, ⟨_, SqL.of hsl⟩, fun D hD => ?_⟩
    refine lc_it (walk_list (K := K) (a := sl) (xs := ks.map nI)) (fun i G => Same GG G ∧ G D = some (.lst (((ks.take i).filter fun k => !decide (k ∈ goneF n (starts n) xs xs.length)).map nI))) ⟨same_new hD, upd_same⟩ (fun i G _ hP => SqL.of (hP.1 _ _ hsl)) (fun i v G G' hi hP hY => ?_) (fun G hP => ?_)
    · obtain ⟨s1, hd⟩ := hP
      obtain ⟨rfl, hx⟩ := hY
      rw [List.getElem?_map] at hx
      obtain ⟨k, ek, rfl⟩ := Option.map_eq_some_iff.mp hx
      refine ⟨rfl, _, rfl, _, rfl, gl, _, rfl, .inl (SqL.of (s1 _ _ h_gl)), rfl, flat_nats _, _, rfl, ?_⟩
      rw [show (if true = true then !inV (nI k) ((goneF n (starts n) xs xs.length).map nI) else inV (nI k) ((goneF n (starts n) xs xs.length).map nI)) = !decide (k ∈ goneF n (starts n) xs xs.length) from congrArg (!·) (inV_nats k _)]
      have nx : (ks.take (i + 1)).filter (fun k => !decide (k ∈ goneF n (starts n) xs xs.length)) = (ks.take i).filter (fun k => !decide (k ∈ goneF n (starts n) xs xs.length)) ++ (if (!decide (k ∈ goneF n (starts n) xs xs.length)) = true then [k] else []) := by
        rw [List.take_add_one, ek, Option.toList_some, List.filter_append, filt_one]
      refine ite2 (fun c => ⟨_, rfl, _, hd, ?_, fun b' o e => ?_, ?_⟩) (fun c => ⟨s1, ?_⟩)
      · rw [List.length_map]
        refine sl_lt (Nat.le_trans (List.length_filter_le _ _) ?_)
        rw [List.length_take]
        omega
      · rw [upd_ne (ne_of_none e hD)]
        exact s1 _ _ e
      · rw [upd_same, nx, if_pos c, List.map_append]
        rfl
      · rw [nx, if_neg c, List.append_nil]
        exact hd
    obtain ⟨s1, hd⟩ := hP
    rw [show (ks.map nI).length = ks.length from List.length_map .., List.take_length] at hd
    replace SB := SB.trans s1
    replace hsl := s1 _ _ hsl
    replace hkl := s1 _ _ hkl
    replace hw := s1 _ _ hw
    have hqs : ∀ k ∈ ks.filter (fun k => !decide (k ∈ goneF n (starts n) xs xs.length)), kpAt n.rows k = true ∧ k ∉ goneF n (starts n) xs xs.length := fun k hk => by
      obtain ⟨h1, h2⟩ := List.mem_filter.mp hk
      exact ⟨hks k h1, of_decide_eq_false ((Bool.not_eq_true' _).mp h2)⟩
    have lqs : (ks.filter (fun k => !decide (k ∈ goneF n (starts n) xs xs.length))).length ≤ 60 := Nat.le_trans (List.length_filter_le _ _) l60
    generalize ks.filter (fun k => !decide (k ∈ goneF n (starts n) xs xs.length)) = qs at *
    clear s1 hD
    have kq := KIs.nats (K := K) (H := G) fun k hk => (hqs k hk).1
    refine ⟨_, rfl, _, rfl, p1, D, n, qs.map nI, qs.map fun _ => true, rfl, hn.same SB, hd, by rw [List.length_map]; omega, kq.1, kq.2, (fun z => by rw [all_true] at z; cases z), fun _ => ⟨qs, rfl, fun k hk => (hqs k hk).1, fun ss pw mem => ⟨fun _ pq G1 s1 hnq => ?_, fun big => ?_⟩⟩⟩
    rotate_left
    · have := freed_few (ss := ss) nok fun i hi => (hqs i ((mem i).mp hi)).1
      omega
    have hss : ∀ i ∈ ss, kpAt n.rows i = true := fun i hi => (hqs i ((mem i).mp hi)).1
    have enF : ∀ ss : List Nat, frm (n.freed ss).fs (n.freed ss).en = frm n.fs n.en := fun ss => frm_left nok.en
    have lrF : ∀ ss : List Nat, (n.freed ss).rows.length ≤ 40 := fun ss => by rw [show (n.freed ss).rows.length = n.rows.length from fr_len ..]; exact l40
    have stF : ∀ ss : List Nat, starts (n.freed ss) = starts n := fun ss => start_freed
    have eqr := quiet_run (ss := ss) nok hss (st := starts n) (xs := xs) fun k hk => (hqs k ((mem k).mp hk)).2
    have lst : (starts n).length = n.holds.length := List.length_map ..
    refine ⟨_, rfl, pq, wl, n.freed ss, xs, .non, starts n, rfl, hnq, s1 _ _ hw, fun x hx => by rw [enF]; exact hin x hx, .inl ⟨rfl, (stF ss).symm⟩, by rw [← stF ss]; exact List.length_map .., run_small hnq.1 (lrF ss) st0 xbd x12, fun ra1 G2 _ s2 h_r1 => ?_⟩
    rw [eqr] at h_r1
    refine ⟨_, rfl, _, rfl, p1, wl, n, xs, .non, starts n, rfl, hn.same ((SB.trans s1).trans s2), s2 _ _ (s1 _ _ hw), hin, .inl ⟨rfl, rfl⟩, lst, ro, fun ra2 G3 _ s3 h_r2 => ?_⟩
    refine ⟨⟨ra1, ra2, _, _, rfl, rfl, s3 _ _ h_r1, h_r2, prs_ints _⟩, fun G4 e4 => ⟨_, rfl, iteF ?_⟩⟩
    have T4 : Same G G4 := fun b o e => e4 _ _ (s3 _ _ (s2 _ _ (s1 _ _ e)))
    replace SB := SB.trans T4
    replace hsl := T4 _ _ hsl
    replace hkl := T4 _ _ hkl
    replace hw := T4 _ _ hw
    clear T4 e4 s3 s2 s1 h_r1 h_r2 hnq kq hd eqr hss mem pw hqs lqs
    refine ⟨_, rfl, (by show 0 ≤ sizeLine; decide), fun zl hzl => ?_⟩
    generalize hG5 : upd _ zl _ = G5
    obtain ⟨s5, h_zl⟩ := upd_gen hG5 hzl
    refine ⟨p1, zl, n, [], [], rfl, hn.same (SB.trans s5), h_zl, by decide, rfl, (fun i v b e => nomatch e), (fun z => nomatch z), fun _ => ⟨[], rfl, (fun k hk => nomatch hk), fun ss pw mem => ⟨fun _ pq G1 s1 hnq => ?_, fun big => ?_⟩⟩⟩
    rotate_left
    · have := freed_few (ss := ss) nok fun i hi => nomatch (mem i).mp hi
      omega
    obtain rfl : ss = [] := List.eq_nil_iff_forall_not_mem.mpr fun k hk => nomatch (mem k).mp hk
    rw [freed_nil] at hnq
    have hn1 := hn.same ((SB.trans s5).trans s1)
    obtain ⟨_, dx1, _, _, _, _, _, _, _, b1⟩ := id hn1
    obtain ⟨_, dx2, _, _, _, _, _, _, _, b2⟩ := id hnq
    refine ⟨_, rfl, ⟨pq, p1, dx2, dx1, _, _, rfl, rfl, b2.ob, b1.ob, n, hnq, hn1⟩, fun G6 e6 => ⟨_, rfl, iteF ?_⟩⟩
    have T6 : Same G4 G6 := fun b o e => e6 _ _ (s1 _ _ (s5 _ _ e))
    replace SB := SB.trans T6
    replace hsl := T6 _ _ hsl
    replace hkl := T6 _ _ hkl
    replace hw := T6 _ _ hw
    clear T6 e6 s5 s1 h_zl hnq hn1 b1 b2 hG5 hzl mem pw
    have kk := KIs.nats (K := K) (H := G6) (n := n) (ks := keepsOf n.rows) fun k hk => (List.mem_filter.mp hk).2
    refine ⟨_, rfl, _, rfl, p1, kl, n, (keepsOf n.rows).map nI, (keepsOf n.rows).map fun _ => true, rfl, hn.same SB, hkl, by rw [List.length_map]; omega, kk.1, kk.2, (fun z => by rw [all_true] at z; cases z), fun _ => ⟨keepsOf n.rows, rfl, fun k hk => (List.mem_filter.mp hk).2, fun ss pw mem => ⟨fun h12 pf G1 s1 hnf => ?_, fun big => ?_⟩⟩⟩
    rotate_left
    · have := freed_few (ss := ss) nok (keep_all mem).1
      omega
    obtain ⟨hss, kall⟩ := keep_all mem
    have okF := hnf.1
    have few := freed_few (ss := ss) nok hss
    have lF : (n.freed ss).fs.length ≤ 6 := by rw [freed_len]; omega
    have WN : ∀ nums k, wentAt (n.freed ss) nums k = false := fun nums k => went_all nok hss kall nums k
    have GN := gone_none (n := n.freed ss) (st := starts (n.freed ss)) (xs := xs) WN xs.length
    have roF : RunOk (n.freed ss) (starts (n.freed ss)) xs := by
      rw [stF]
      exact run_small okF (lrF ss) st0 xbd x12
    have hinF : ∀ x ∈ xs, inR (frm (n.freed ss).fs (n.freed ss).en).w x = true := fun x hx => by
      rw [enF]
      exact hin x hx
    replace SB := SB.trans s1
    replace hsl := s1 _ _ hsl
    replace hw := s1 _ _ hw
    clear s1 kk hkl
    refine ⟨_, rfl, _, rfl, pf, wl, n.freed ss, xs, rfl, hnf, hw, hinF, roF, x12, fun g2 G2 s2 h_g2 => ?_⟩
    rw [GN] at h_g2
    refine ⟨(by show 0 ≤ sizeLine; decide), fun zl hzl => ?_⟩
    generalize hG5 : upd _ zl _ = G5
    obtain ⟨s5, h_zl⟩ := upd_gen hG5 hzl
    refine ⟨⟨g2, zl, _, _, rfl, rfl, s5 _ _ h_g2, h_zl, prs_nats []⟩, fun G7 e7 => ⟨_, rfl, iteF ?_⟩⟩
    have T7 : Same G1 G7 := fun b o e => e7 _ _ (s5 _ _ (s2 _ _ e))
    refine ⟨_, rfl, _, rfl, pa, n, rfl, hpp.same (SB.trans T7), nok, fun p3 G8 s8 hn3 => ?_⟩
    have hn1 := hn.same ((SB.trans T7).trans s8)
    obtain ⟨_, dx1, _, _, _, _, _, _, _, b1⟩ := id hn1
    obtain ⟨_, dx3, _, _, _, _, _, _, _, b3⟩ := id hn3
    refine ⟨⟨p1, p3, dx1, dx3, _, _, rfl, rfl, b1.ob, b3.ob, n, hn1, hn3⟩, fun G9 e9 => ⟨_, rfl, iteF ?_⟩⟩
    have T9 : Same G1 G9 := fun b o e => e9 _ _ (s8 _ _ (T7 _ _ e))
    replace hnf := hnf.same T9
    replace hsl := T9 _ _ hsl
    replace hw := T9 _ _ hw
    clear T9 e9 s8 T7 e7 s5 s2 h_zl h_g2 hn1 hn3 b1 b3 hG5 hzl SB mem pw
    have hks2 : ∀ k ∈ ks, kpAt (n.freed ss).rows k = true := fun k hk => by
      rw [freed_kp]
      exact hks k hk
    have ki := KIs.nats (K := K) (H := G9) hks2
    have lkk : (ks.map nI).length = ks.length := List.length_map ..
    refine ⟨_, rfl, _, rfl, pf, sl, n.freed ss, ks.map nI, ks.map fun _ => true, rfl, hnf, hsl, by omega, ki.1, ki.2, (fun z => by rw [all_true] at z; cases z), fun _ => ⟨ks, rfl, hks2, fun ts pw mem => ⟨fun _ pq G1 s1 hnq => ?_, fun big => ?_⟩⟩⟩
    rotate_left
    · have := freed_few (n := n.freed ss) (ss := ts) okF fun i hi => hks2 i ((mem i).mp hi)
      omega
    have hts : ∀ i ∈ ts, kpAt (n.freed ss).rows i = true := fun i hi => hks2 i ((mem i).mp hi)
    have eqr := quiet_run (n := n.freed ss) (ss := ts) okF hts (st := starts (n.freed ss)) (xs := xs) fun k hk => by
      rw [GN]
      exact fun z => nomatch z
    have stF2 : starts ((n.freed ss).freed ts) = starts (n.freed ss) := start_freed
    have st1 : ∀ k ∈ starts (n.freed ss), k.natAbs < 2 ^ 110 := by
      rw [stF]
      exact st0
    refine ⟨_, rfl, pq, wl, (n.freed ss).freed ts, xs, .non, starts (n.freed ss), rfl, hnq, s1 _ _ hw, fun x hx => by rw [show frm ((n.freed ss).freed ts).fs ((n.freed ss).freed ts).en = frm (n.freed ss).fs (n.freed ss).en from frm_left okF.en]; exact hinF x hx, .inl ⟨rfl, stF2.symm⟩, by rw [← stF2]; exact List.length_map .., run_small hnq.1 (by rw [show ((n.freed ss).freed ts).rows.length = (n.freed ss).rows.length from fr_len ..]; exact lrF ss) st1 xbd x12, fun ra1 G2 _ s2 h_r1 => ?_⟩
    rw [eqr] at h_r1
    refine ⟨_, rfl, _, rfl, pf, wl, n.freed ss, xs, .non, starts (n.freed ss), rfl, hnf.same (s1.trans s2), s2 _ _ (s1 _ _ hw), hinF, .inl ⟨rfl, rfl⟩, List.length_map .., roF, fun ra2 G3 _ s3 h_r2 => ?_⟩
    exact ⟨⟨ra1, ra2, _, _, rfl, rfl, s3 _ _ h_r1, h_r2, prs_ints _⟩, fun G4 _ => q G4⟩
end
end E1

namespace E1
open PySem PySem.Spec PyProof.Rows L2
theorem all_mk {l : PySem.W.OpenLaw} {w : World} {K : PySem.W.Frag} {h : Heap} {mg : Str → Option Value} {fa : Addr} {C : Addr} {CN : Addr} {CE : Addr} {CC : Addr} {CB : Addr} {A_ENDS : Addr} {A_MANNERS : Addr} {A_POINT_RULES : Addr} {A_ROW_LENGTHS : Addr} (e_C : He.ga K "Form" = C) (e_CN : He.ga K "Net" = CN) (e_CE : He.ga K "EchoError" = CE) (e_CC : He.ga K "NoChoice" = CC) (e_CB : He.ga K "BadNet" = CB) (e_A_ENDS : He.ga K "ENDS" = A_ENDS) (e_A_MANNERS : He.ga K "MANNERS" = A_MANNERS) (e_A_POINT_RULES : He.ga K "POINT_RULES" = A_POINT_RULES) (e_A_ROW_LENGTHS : He.ga K "ROW_LENGTHS" = A_ROW_LENGTHS) (X : K.In h) (G : h.Ns mainGlobals mg) (hfa : mg "law" = some (.ref fa)) (hfile : (l.prog.main.file : Str) = "/claim/cut.py") (htop : (l.prog.main.scope.names.lookup ("super" : Str)).isSome = false) (c : SaysY FA FN TS EXB ER w K) :
    ∃ fd : FuncData, (∀ (s : Shared) (v : Value), BindsTo s fd ⟨[v], []⟩ [("_law_script", v)]) ∧ ∀ base : Heap, K.In base → base.Ns mainGlobals mg → FnOk l.prog w K mg base CX0 11 fa fd ["_law_script"] (spLaw K) := by
  obtain ⟨fd_is_whole, F0_is_whole⟩ := c.t.d.def_ 0 (d := dd_is_whole) rfl
  have F_is_whole : Fun K "is_whole" "is_whole" s_is_whole (He.ga K "is_whole") fd_is_whole := fun_of F0_is_whole
  have k_is_whole := F_is_whole.kp
  have a_is_whole : PySem.W.nsIn K mainGlobals "is_whole" = some (some (.ref (He.ga K "is_whole"))) := He.eqO_ok (c.t.d.fact 0 (f := .glo "is_whole") rfl)
  have b_is_whole := F_is_whole.binds (ps := ["thing"]) fun _ _ _ _ _ _ us hl => match us, hl with | [_], _ => rfl
  obtain ⟨fd_downward, F0_downward⟩ := c.t.d.def_ 1 (d := dd_downward) rfl
  have F_downward : Fun K "downward" "downward" s_downward (He.ga K "downward") fd_downward := fun_of F0_downward
  have k_downward := F_downward.kp
  have a_downward : PySem.W.nsIn K mainGlobals "downward" = some (some (.ref (He.ga K "downward"))) := He.eqO_ok (c.t.d.fact 1 (f := .glo "downward") rfl)
  have b_downward := F_downward.binds (ps := ["top", "bottom"]) fun _ _ _ _ _ _ us hl => match us, hl with | [_, _], _ => rfl
  obtain ⟨fd_upward, F0_upward⟩ := c.t.d.def_ 2 (d := dd_upward) rfl
  have F_upward : Fun K "upward" "upward" s_upward (He.ga K "upward") fd_upward := fun_of F0_upward
  have k_upward := F_upward.kp
  have a_upward : PySem.W.nsIn K mainGlobals "upward" = some (some (.ref (He.ga K "upward"))) := He.eqO_ok (c.t.d.fact 2 (f := .glo "upward") rfl)
  have b_upward := F_upward.binds (ps := ["top", "bottom"]) fun _ _ _ _ _ _ us hl => match us, hl with | [_, _], _ => rfl
  obtain ⟨fd_inward, F0_inward⟩ := c.t.d.def_ 3 (d := dd_inward) rfl
  have F_inward : Fun K "inward" "inward" s_inward (He.ga K "inward") fd_inward := fun_of F0_inward
  have k_inward := F_inward.kp
  have a_inward : PySem.W.nsIn K mainGlobals "inward" = some (some (.ref (He.ga K "inward"))) := He.eqO_ok (c.t.d.fact 3 (f := .glo "inward") rfl)
  have b_inward := F_inward.binds (ps := ["top", "bottom"]) fun _ _ _ _ _ _ us hl => match us, hl with | [_, _], _ => rfl
  obtain ⟨fd_outward, F0_outward⟩ := c.t.d.def_ 4 (d := dd_outward) rfl
  have F_outward : Fun K "outward" "outward" s_outward (He.ga K "outward") fd_outward := fun_of F0_outward
  have k_outward := F_outward.kp
  have a_outward : PySem.W.nsIn K mainGlobals "outward" = some (some (.ref (He.ga K "outward"))) := He.eqO_ok (c.t.d.fact 4 (f := .glo "outward") rfl)
  have b_outward := F_outward.binds (ps := ["top", "bottom"]) fun _ _ _ _ _ _ us hl => match us, hl with | [_, _], _ => rfl
  obtain ⟨fd_nearest_greater, F0_nearest_greater⟩ := c.t.d.def_ 5 (d := dd_nearest_greater) rfl
  have F_nearest_greater : Fun K "nearest_greater" "nearest_greater" s_nearest_greater (He.ga K "nearest_greater") fd_nearest_greater := fun_of F0_nearest_greater
  have k_nearest_greater := F_nearest_greater.kp
  have a_nearest_greater : PySem.W.nsIn K mainGlobals "nearest_greater" = some (some (.ref (He.ga K "nearest_greater"))) := He.eqO_ok (c.t.d.fact 5 (f := .glo "nearest_greater") rfl)
  have b_nearest_greater := F_nearest_greater.binds (ps := ["top", "bottom"]) fun _ _ _ _ _ _ us hl => match us, hl with | [_, _], _ => rfl
  obtain ⟨fd_nearest_even, F0_nearest_even⟩ := c.t.d.def_ 6 (d := dd_nearest_even) rfl
  have F_nearest_even : Fun K "nearest_even" "nearest_even" s_nearest_even (He.ga K "nearest_even") fd_nearest_even := fun_of F0_nearest_even
  have k_nearest_even := F_nearest_even.kp
  have a_nearest_even : PySem.W.nsIn K mainGlobals "nearest_even" = some (some (.ref (He.ga K "nearest_even"))) := He.eqO_ok (c.t.d.fact 6 (f := .glo "nearest_even") rfl)
  have b_nearest_even := F_nearest_even.binds (ps := ["top", "bottom"]) fun _ _ _ _ _ _ us hl => match us, hl with | [_, _], _ => rfl
  obtain ⟨fd_nearest_far, F0_nearest_far⟩ := c.t.d.def_ 7 (d := dd_nearest_far) rfl
  have F_nearest_far : Fun K "nearest_far" "nearest_far" s_nearest_far (He.ga K "nearest_far") fd_nearest_far := fun_of F0_nearest_far
  have k_nearest_far := F_nearest_far.kp
  have a_nearest_far : PySem.W.nsIn K mainGlobals "nearest_far" = some (some (.ref (He.ga K "nearest_far"))) := He.eqO_ok (c.t.d.fact 7 (f := .glo "nearest_far") rfl)
  have b_nearest_far := F_nearest_far.binds (ps := ["top", "bottom"]) fun _ _ _ _ _ _ us hl => match us, hl with | [_, _], _ => rfl
  obtain ⟨fd_is_manner, F0_is_manner⟩ := c.t.d.def_ 8 (d := dd_is_manner) rfl
  have F_is_manner : Fun K "is_manner" "is_manner" s_is_manner (He.ga K "is_manner") fd_is_manner := fun_of F0_is_manner
  have k_is_manner := F_is_manner.kp
  have a_is_manner : PySem.W.nsIn K mainGlobals "is_manner" = some (some (.ref (He.ga K "is_manner"))) := He.eqO_ok (c.t.d.fact 8 (f := .glo "is_manner") rfl)
  have b_is_manner := F_is_manner.binds (ps := ["thing"]) fun _ _ _ _ _ _ us hl => match us, hl with | [_], _ => rfl
  obtain ⟨fd_rounded, F0_rounded⟩ := c.t.d.def_ 9 (d := dd_rounded) rfl
  have F_rounded : FunD K "rounded" "rounded" (defArgs s_rounded) (defBody s_rounded) (defScope s_rounded) [V.str "half"] [] (He.ga K "rounded") fd_rounded := F0_rounded
  have k_rounded := F_rounded.kp
  have a_rounded : PySem.W.nsIn K mainGlobals "rounded" = some (some (.ref (He.ga K "rounded"))) := He.eqO_ok (c.t.d.fact 9 (f := .glo "rounded") rfl)
  obtain ⟨ds_rounded, dv_rounded, b_rounded⟩ := F_rounded.binds1 (ps := ["value", "manner"]) 2 1 (by simp) rfl fun _ _ _ _ _ _ _ us its h1 h2 => match us, its, h1, h2 with | [_, _], [_], _, _ => ⟨_, rfl, rfl⟩
  cases dv_rounded
  obtain ⟨fd_is_width, F0_is_width⟩ := c.t.d.def_ 10 (d := dd_is_width) rfl
  have F_is_width : Fun K "is_width" "is_width" s_is_width (He.ga K "is_width") fd_is_width := fun_of F0_is_width
  have k_is_width := F_is_width.kp
  have a_is_width : PySem.W.nsIn K mainGlobals "is_width" = some (some (.ref (He.ga K "is_width"))) := He.eqO_ok (c.t.d.fact 10 (f := .glo "is_width") rfl)
  have b_is_width := F_is_width.binds (ps := ["thing"]) fun _ _ _ _ _ _ us hl => match us, hl with | [_], _ => rfl
  obtain ⟨fd_is_point, F0_is_point⟩ := c.t.d.def_ 11 (d := dd_is_point) rfl
  have F_is_point : Fun K "is_point" "is_point" s_is_point (He.ga K "is_point") fd_is_point := fun_of F0_is_point
  have k_is_point := F_is_point.kp
  have a_is_point : PySem.W.nsIn K mainGlobals "is_point" = some (some (.ref (He.ga K "is_point"))) := He.eqO_ok (c.t.d.fact 11 (f := .glo "is_point") rfl)
  have b_is_point := F_is_point.binds (ps := ["thing"]) fun _ _ _ _ _ _ us hl => match us, hl with | [_], _ => rfl
  obtain ⟨fd_is_ends, F0_is_ends⟩ := c.t.d.def_ 12 (d := dd_is_ends) rfl
  have F_is_ends : Fun K "is_ends" "is_ends" s_is_ends (He.ga K "is_ends") fd_is_ends := fun_of F0_is_ends
  have k_is_ends := F_is_ends.kp
  have a_is_ends : PySem.W.nsIn K mainGlobals "is_ends" = some (some (.ref (He.ga K "is_ends"))) := He.eqO_ok (c.t.d.fact 12 (f := .glo "is_ends") rfl)
  have b_is_ends := F_is_ends.binds (ps := ["thing"]) fun _ _ _ _ _ _ us hl => match us, hl with | [_], _ => rfl
  obtain ⟨fd_is_place, F0_is_place⟩ := c.t.d.def_ 13 (d := dd_is_place) rfl
  have F_is_place : Fun K "is_place" "is_place" s_is_place (He.ga K "is_place") fd_is_place := fun_of F0_is_place
  have k_is_place := F_is_place.kp
  have a_is_place : PySem.W.nsIn K mainGlobals "is_place" = some (some (.ref (He.ga K "is_place"))) := He.eqO_ok (c.t.d.fact 13 (f := .glo "is_place") rfl)
  have b_is_place := F_is_place.binds (ps := ["thing", "many"]) fun _ _ _ _ _ _ us hl => match us, hl with | [_, _], _ => rfl
  obtain ⟨fd_is_factor, F0_is_factor⟩ := c.t.d.def_ 14 (d := dd_is_factor) rfl
  have F_is_factor : Fun K "is_factor" "is_factor" s_is_factor (He.ga K "is_factor") fd_is_factor := fun_of F0_is_factor
  have k_is_factor := F_is_factor.kp
  have a_is_factor : PySem.W.nsIn K mainGlobals "is_factor" = some (some (.ref (He.ga K "is_factor"))) := He.eqO_ok (c.t.d.fact 14 (f := .glo "is_factor") rfl)
  have b_is_factor := F_is_factor.binds (ps := ["thing"]) fun _ _ _ _ _ _ us hl => match us, hl with | [_], _ => rfl
  obtain ⟨fd_in_point, F0_in_point⟩ := c.t.d.def_ 15 (d := dd_in_point) rfl
  have F_in_point : Fun K "in_point" "in_point" s_in_point (He.ga K "in_point") fd_in_point := fun_of F0_in_point
  have k_in_point := F_in_point.kp
  have a_in_point : PySem.W.nsIn K mainGlobals "in_point" = some (some (.ref (He.ga K "in_point"))) := He.eqO_ok (c.t.d.fact 15 (f := .glo "in_point") rfl)
  have b_in_point := F_in_point.binds (ps := ["row", "points", "given"]) fun _ _ _ _ _ _ us hl => match us, hl with | [_, _, _], _ => rfl
  obtain ⟨fd_old_point, F0_old_point⟩ := c.t.d.def_ 16 (d := dd_old_point) rfl
  have F_old_point : Fun K "old_point" "old_point" s_old_point (He.ga K "old_point") fd_old_point := fun_of F0_old_point
  have k_old_point := F_old_point.kp
  have a_old_point : PySem.W.nsIn K mainGlobals "old_point" = some (some (.ref (He.ga K "old_point"))) := He.eqO_ok (c.t.d.fact 16 (f := .glo "old_point") rfl)
  have b_old_point := F_old_point.binds (ps := ["row", "points", "given"]) fun _ _ _ _ _ _ us hl => match us, hl with | [_, _, _], _ => rfl
  obtain ⟨fd_times_point, F0_times_point⟩ := c.t.d.def_ 17 (d := dd_times_point) rfl
  have F_times_point : Fun K "times_point" "times_point" s_times_point (He.ga K "times_point") fd_times_point := fun_of F0_times_point
  have k_times_point := F_times_point.kp
  have a_times_point : PySem.W.nsIn K mainGlobals "times_point" = some (some (.ref (He.ga K "times_point"))) := He.eqO_ok (c.t.d.fact 17 (f := .glo "times_point") rfl)
  have b_times_point := F_times_point.binds (ps := ["row", "points", "given"]) fun _ _ _ _ _ _ us hl => match us, hl with | [_, _, _], _ => rfl
  obtain ⟨fd_sum_point, F0_sum_point⟩ := c.t.d.def_ 18 (d := dd_sum_point) rfl
  have F_sum_point : Fun K "sum_point" "sum_point" s_sum_point (He.ga K "sum_point") fd_sum_point := fun_of F0_sum_point
  have k_sum_point := F_sum_point.kp
  have a_sum_point : PySem.W.nsIn K mainGlobals "sum_point" = some (some (.ref (He.ga K "sum_point"))) := He.eqO_ok (c.t.d.fact 18 (f := .glo "sum_point") rfl)
  have b_sum_point := F_sum_point.binds (ps := ["row", "points", "given"]) fun _ _ _ _ _ _ us hl => match us, hl with | [_, _, _], _ => rfl
  obtain ⟨fd_move_point, F0_move_point⟩ := c.t.d.def_ 19 (d := dd_move_point) rfl
  have F_move_point : Fun K "move_point" "move_point" s_move_point (He.ga K "move_point") fd_move_point := fun_of F0_move_point
  have k_move_point := F_move_point.kp
  have a_move_point : PySem.W.nsIn K mainGlobals "move_point" = some (some (.ref (He.ga K "move_point"))) := He.eqO_ok (c.t.d.fact 19 (f := .glo "move_point") rfl)
  have b_move_point := F_move_point.binds (ps := ["row", "points", "given"]) fun _ _ _ _ _ _ us hl => match us, hl with | [_, _, _], _ => rfl
  obtain ⟨fd_keep_point, F0_keep_point⟩ := c.t.d.def_ 20 (d := dd_keep_point) rfl
  have F_keep_point : Fun K "keep_point" "keep_point" s_keep_point (He.ga K "keep_point") fd_keep_point := fun_of F0_keep_point
  have k_keep_point := F_keep_point.kp
  have a_keep_point : PySem.W.nsIn K mainGlobals "keep_point" = some (some (.ref (He.ga K "keep_point"))) := He.eqO_ok (c.t.d.fact 20 (f := .glo "keep_point") rfl)
  have b_keep_point := F_keep_point.binds (ps := ["row", "points", "given"]) fun _ _ _ _ _ _ us hl => match us, hl with | [_, _, _], _ => rfl
  obtain ⟨fd_is_written_as_row, F0_is_written_as_row⟩ := c.t.d.def_ 21 (d := dd_is_written_as_row) rfl
  have F_is_written_as_row : Fun K "is_written_as_row" "is_written_as_row" s_is_written_as_row (He.ga K "is_written_as_row") fd_is_written_as_row := fun_of F0_is_written_as_row
  have k_is_written_as_row := F_is_written_as_row.kp
  have a_is_written_as_row : PySem.W.nsIn K mainGlobals "is_written_as_row" = some (some (.ref (He.ga K "is_written_as_row"))) := He.eqO_ok (c.t.d.fact 21 (f := .glo "is_written_as_row") rfl)
  have b_is_written_as_row := F_is_written_as_row.binds (ps := ["thing"]) fun _ _ _ _ _ _ us hl => match us, hl with | [_], _ => rfl
  obtain ⟨fd_row_point, F0_row_point⟩ := c.t.d.def_ 22 (d := dd_row_point) rfl
  have F_row_point : Fun K "row_point" "row_point" s_row_point (He.ga K "row_point") fd_row_point := fun_of F0_row_point
  have k_row_point := F_row_point.kp
  have a_row_point : PySem.W.nsIn K mainGlobals "row_point" = some (some (.ref (He.ga K "row_point"))) := He.eqO_ok (c.t.d.fact 22 (f := .glo "row_point") rfl)
  have b_row_point := F_row_point.binds (ps := ["row", "points", "given"]) fun _ _ _ _ _ _ us hl => match us, hl with | [_, _, _], _ => rfl
  obtain ⟨fd_check_length, F0_check_length⟩ := c.t.d.def_ 23 (d := dd_check_length) rfl
  have F_check_length : Fun K "check_length" "check_length" s_check_length (He.ga K "check_length") fd_check_length := fun_of F0_check_length
  have k_check_length := F_check_length.kp
  have a_check_length : PySem.W.nsIn K mainGlobals "check_length" = some (some (.ref (He.ga K "check_length"))) := He.eqO_ok (c.t.d.fact 23 (f := .glo "check_length") rfl)
  have b_check_length := F_check_length.binds (ps := ["thing", "part", "least", "most"]) fun _ _ _ _ _ _ us hl => match us, hl with | [_, _, _, _], _ => rfl
  obtain ⟨fd_check_forms, F0_check_forms⟩ := c.t.d.def_ 24 (d := dd_check_forms) rfl
  have F_check_forms : Fun K "check_forms" "check_forms" s_check_forms (He.ga K "check_forms") fd_check_forms := fun_of F0_check_forms
  have k_check_forms := F_check_forms.kp
  have a_check_forms : PySem.W.nsIn K mainGlobals "check_forms" = some (some (.ref (He.ga K "check_forms"))) := He.eqO_ok (c.t.d.fact 24 (f := .glo "check_forms") rfl)
  have b_check_forms := F_check_forms.binds (ps := ["forms"]) fun _ _ _ _ _ _ us hl => match us, hl with | [_], _ => rfl
  obtain ⟨fd_is_hold, F0_is_hold⟩ := c.t.d.def_ 25 (d := dd_is_hold) rfl
  have F_is_hold : Fun K "is_hold" "is_hold" s_is_hold (He.ga K "is_hold") fd_is_hold := fun_of F0_is_hold
  have k_is_hold := F_is_hold.kp
  have a_is_hold : PySem.W.nsIn K mainGlobals "is_hold" = some (some (.ref (He.ga K "is_hold"))) := He.eqO_ok (c.t.d.fact 25 (f := .glo "is_hold") rfl)
  have b_is_hold := F_is_hold.binds (ps := ["thing", "forms"]) fun _ _ _ _ _ _ us hl => match us, hl with | [_, _], _ => rfl
  obtain ⟨fd_check_holds, F0_check_holds⟩ := c.t.d.def_ 26 (d := dd_check_holds) rfl
  have F_check_holds : Fun K "check_holds" "check_holds" s_check_holds (He.ga K "check_holds") fd_check_holds := fun_of F0_check_holds
  have k_check_holds := F_check_holds.kp
  have a_check_holds : PySem.W.nsIn K mainGlobals "check_holds" = some (some (.ref (He.ga K "check_holds"))) := He.eqO_ok (c.t.d.fact 26 (f := .glo "check_holds") rfl)
  have b_check_holds := F_check_holds.binds (ps := ["holds", "forms"]) fun _ _ _ _ _ _ us hl => match us, hl with | [_, _], _ => rfl
  obtain ⟨fd_checked_points, F0_checked_points⟩ := c.t.d.def_ 27 (d := dd_checked_points) rfl
  have F_checked_points : Fun K "checked_points" "checked_points" s_checked_points (He.ga K "checked_points") fd_checked_points := fun_of F0_checked_points
  have k_checked_points := F_checked_points.kp
  have a_checked_points : PySem.W.nsIn K mainGlobals "checked_points" = some (some (.ref (He.ga K "checked_points"))) := He.eqO_ok (c.t.d.fact 27 (f := .glo "checked_points") rfl)
  have b_checked_points := F_checked_points.binds (ps := ["rows", "given"]) fun _ _ _ _ _ _ us hl => match us, hl with | [_, _], _ => rfl
  obtain ⟨fd_check_links, F0_check_links⟩ := c.t.d.def_ 28 (d := dd_check_links) rfl
  have F_check_links : Fun K "check_links" "check_links" s_check_links (He.ga K "check_links") fd_check_links := fun_of F0_check_links
  have k_check_links := F_check_links.kp
  have a_check_links : PySem.W.nsIn K mainGlobals "check_links" = some (some (.ref (He.ga K "check_links"))) := He.eqO_ok (c.t.d.fact 28 (f := .glo "check_links") rfl)
  have b_check_links := F_check_links.binds (ps := ["holds", "rows"]) fun _ _ _ _ _ _ us hl => match us, hl with | [_, _], _ => rfl
  obtain ⟨fd_enter_form, F0_enter_form⟩ := c.t.d.def_ 29 (d := dd_enter_form) rfl
  have F_enter_form : Fun K "enter_form" "enter_form" s_enter_form (He.ga K "enter_form") fd_enter_form := fun_of F0_enter_form
  have k_enter_form := F_enter_form.kp
  have a_enter_form : PySem.W.nsIn K mainGlobals "enter_form" = some (some (.ref (He.ga K "enter_form"))) := He.eqO_ok (c.t.d.fact 29 (f := .glo "enter_form") rfl)
  have b_enter_form := F_enter_form.binds (ps := ["net"]) fun _ _ _ _ _ _ us hl => match us, hl with | [_], _ => rfl
  obtain ⟨fd_is_row_number, F0_is_row_number⟩ := c.t.d.def_ 30 (d := dd_is_row_number) rfl
  have F_is_row_number : Fun K "is_row_number" "is_row_number" s_is_row_number (He.ga K "is_row_number") fd_is_row_number := fun_of F0_is_row_number
  have k_is_row_number := F_is_row_number.kp
  have a_is_row_number : PySem.W.nsIn K mainGlobals "is_row_number" = some (some (.ref (He.ga K "is_row_number"))) := He.eqO_ok (c.t.d.fact 30 (f := .glo "is_row_number") rfl)
  have b_is_row_number := F_is_row_number.binds (ps := ["net", "thing"]) fun _ _ _ _ _ _ us hl => match us, hl with | [_, _], _ => rfl
  obtain ⟨fd_is_keep_number, F0_is_keep_number⟩ := c.t.d.def_ 31 (d := dd_is_keep_number) rfl
  have F_is_keep_number : Fun K "is_keep_number" "is_keep_number" s_is_keep_number (He.ga K "is_keep_number") fd_is_keep_number := fun_of F0_is_keep_number
  have k_is_keep_number := F_is_keep_number.kp
  have a_is_keep_number : PySem.W.nsIn K mainGlobals "is_keep_number" = some (some (.ref (He.ga K "is_keep_number"))) := He.eqO_ok (c.t.d.fact 31 (f := .glo "is_keep_number") rfl)
  have b_is_keep_number := F_is_keep_number.binds (ps := ["net", "thing"]) fun _ _ _ _ _ _ us hl => match us, hl with | [_, _], _ => rfl
  obtain ⟨fd_swept, F0_swept⟩ := c.t.d.def_ 32 (d := dd_swept) rfl
  have F_swept : Fun K "swept" "swept" s_swept (He.ga K "swept") fd_swept := fun_of F0_swept
  have k_swept := F_swept.kp
  have a_swept : PySem.W.nsIn K mainGlobals "swept" = some (some (.ref (He.ga K "swept"))) := He.eqO_ok (c.t.d.fact 32 (f := .glo "swept") rfl)
  have b_swept := F_swept.binds (ps := ["net", "heard", "held", "rule"]) fun _ _ _ _ _ _ us hl => match us, hl with | [_, _, _, _], _ => rfl
  obtain ⟨fd_without_width, F0_without_width⟩ := c.t.d.def_ 33 (d := dd_without_width) rfl
  have F_without_width : Fun K "without_width" "without_width" s_without_width (He.ga K "without_width") fd_without_width := fun_of F0_without_width
  have k_without_width := F_without_width.kp
  have a_without_width : PySem.W.nsIn K mainGlobals "without_width" = some (some (.ref (He.ga K "without_width"))) := He.eqO_ok (c.t.d.fact 33 (f := .glo "without_width") rfl)
  have b_without_width := F_without_width.binds (ps := ["form"]) fun _ _ _ _ _ _ us hl => match us, hl with | [_], _ => rfl
  obtain ⟨fd_freed, F0_freed⟩ := c.t.d.def_ 34 (d := dd_freed) rfl
  have F_freed : Fun K "freed" "freed" s_freed (He.ga K "freed") fd_freed := fun_of F0_freed
  have k_freed := F_freed.kp
  have a_freed : PySem.W.nsIn K mainGlobals "freed" = some (some (.ref (He.ga K "freed"))) := He.eqO_ok (c.t.d.fact 34 (f := .glo "freed") rfl)
  have b_freed := F_freed.binds (ps := ["net", "rows"]) fun _ _ _ _ _ _ us hl => match us, hl with | [_, _], _ => rfl
  obtain ⟨fd_is_state, F0_is_state⟩ := c.t.d.def_ 35 (d := dd_is_state) rfl
  have F_is_state : Fun K "is_state" "is_state" s_is_state (He.ga K "is_state") fd_is_state := fun_of F0_is_state
  have k_is_state := F_is_state.kp
  have a_is_state : PySem.W.nsIn K mainGlobals "is_state" = some (some (.ref (He.ga K "is_state"))) := He.eqO_ok (c.t.d.fact 35 (f := .glo "is_state") rfl)
  have b_is_state := F_is_state.binds (ps := ["net", "thing"]) fun _ _ _ _ _ _ us hl => match us, hl with | [_, _], _ => rfl
  obtain ⟨fd_check_state, F0_check_state⟩ := c.t.d.def_ 36 (d := dd_check_state) rfl
  have F_check_state : Fun K "check_state" "check_state" s_check_state (He.ga K "check_state") fd_check_state := fun_of F0_check_state
  have k_check_state := F_check_state.kp
  have a_check_state : PySem.W.nsIn K mainGlobals "check_state" = some (some (.ref (He.ga K "check_state"))) := He.eqO_ok (c.t.d.fact 36 (f := .glo "check_state") rfl)
  have b_check_state := F_check_state.binds (ps := ["net", "state"]) fun _ _ _ _ _ _ us hl => match us, hl with | [_, _], _ => rfl
  obtain ⟨fd_check_word, F0_check_word⟩ := c.t.d.def_ 37 (d := dd_check_word) rfl
  have F_check_word : Fun K "check_word" "check_word" s_check_word (He.ga K "check_word") fd_check_word := fun_of F0_check_word
  have k_check_word := F_check_word.kp
  have a_check_word : PySem.W.nsIn K mainGlobals "check_word" = some (some (.ref (He.ga K "check_word"))) := He.eqO_ok (c.t.d.fact 37 (f := .glo "check_word") rfl)
  have b_check_word := F_check_word.binds (ps := ["net", "word"]) fun _ _ _ _ _ _ us hl => match us, hl with | [_, _], _ => rfl
  obtain ⟨fd_check_run, F0_check_run⟩ := c.t.d.def_ 38 (d := dd_check_run) rfl
  have F_check_run : Fun K "check_run" "check_run" s_check_run (He.ga K "check_run") fd_check_run := fun_of F0_check_run
  have k_check_run := F_check_run.kp
  have a_check_run : PySem.W.nsIn K mainGlobals "check_run" = some (some (.ref (He.ga K "check_run"))) := He.eqO_ok (c.t.d.fact 38 (f := .glo "check_run") rfl)
  have b_check_run := F_check_run.binds (ps := ["net", "words"]) fun _ _ _ _ _ _ us hl => match us, hl with | [_, _], _ => rfl
  obtain ⟨fd_first_state, F0_first_state⟩ := c.t.d.def_ 39 (d := dd_first_state) rfl
  have F_first_state : Fun K "first_state" "first_state" s_first_state (He.ga K "first_state") fd_first_state := fun_of F0_first_state
  have k_first_state := F_first_state.kp
  have a_first_state : PySem.W.nsIn K mainGlobals "first_state" = some (some (.ref (He.ga K "first_state"))) := He.eqO_ok (c.t.d.fact 39 (f := .glo "first_state") rfl)
  have b_first_state := F_first_state.binds (ps := ["net", "state"]) fun _ _ _ _ _ _ us hl => match us, hl with | [_, _], _ => rfl
  obtain ⟨fd_sum_number, F0_sum_number⟩ := c.t.d.def_ 40 (d := dd_sum_number) rfl
  have F_sum_number : Fun K "sum_number" "sum_number" s_sum_number (He.ga K "sum_number") fd_sum_number := fun_of F0_sum_number
  have k_sum_number := F_sum_number.kp
  have a_sum_number : PySem.W.nsIn K mainGlobals "sum_number" = some (some (.ref (He.ga K "sum_number"))) := He.eqO_ok (c.t.d.fact 40 (f := .glo "sum_number") rfl)
  have b_sum_number := F_sum_number.binds (ps := ["row", "numbers", "points"]) fun _ _ _ _ _ _ us hl => match us, hl with | [_, _, _], _ => rfl
  obtain ⟨fd_number_of_row, F0_number_of_row⟩ := c.t.d.def_ 41 (d := dd_number_of_row) rfl
  have F_number_of_row : Fun K "number_of_row" "number_of_row" s_number_of_row (He.ga K "number_of_row") fd_number_of_row := fun_of F0_number_of_row
  have k_number_of_row := F_number_of_row.kp
  have a_number_of_row : PySem.W.nsIn K mainGlobals "number_of_row" = some (some (.ref (He.ga K "number_of_row"))) := He.eqO_ok (c.t.d.fact 41 (f := .glo "number_of_row") rfl)
  have b_number_of_row := F_number_of_row.binds (ps := ["row", "numbers", "forms", "points"]) fun _ _ _ _ _ _ us hl => match us, hl with | [_, _, _, _], _ => rfl
  obtain ⟨fd_state_behind, F0_state_behind⟩ := c.t.d.def_ 42 (d := dd_state_behind) rfl
  have F_state_behind : Fun K "state_behind" "state_behind" s_state_behind (He.ga K "state_behind") fd_state_behind := fun_of F0_state_behind
  have k_state_behind := F_state_behind.kp
  have a_state_behind : PySem.W.nsIn K mainGlobals "state_behind" = some (some (.ref (He.ga K "state_behind"))) := He.eqO_ok (c.t.d.fact 42 (f := .glo "state_behind") rfl)
  have b_state_behind := F_state_behind.binds (ps := ["net", "numbers"]) fun _ _ _ _ _ _ us hl => match us, hl with | [_, _], _ => rfl
  obtain ⟨fd_turn_of, F0_turn_of⟩ := c.t.d.def_ 43 (d := dd_turn_of) rfl
  have F_turn_of : Fun K "turn_of" "turn_of" s_turn_of (He.ga K "turn_of") fd_turn_of := fun_of F0_turn_of
  have k_turn_of := F_turn_of.kp
  have a_turn_of : PySem.W.nsIn K mainGlobals "turn_of" = some (some (.ref (He.ga K "turn_of"))) := He.eqO_ok (c.t.d.fact 43 (f := .glo "turn_of") rfl)
  have b_turn_of := F_turn_of.binds (ps := ["net", "state", "word"]) fun _ _ _ _ _ _ us hl => match us, hl with | [_, _, _], _ => rfl
  obtain ⟨fd_went_over, F0_went_over⟩ := c.t.d.def_ 44 (d := dd_went_over) rfl
  have F_went_over : Fun K "went_over" "went_over" s_went_over (He.ga K "went_over") fd_went_over := fun_of F0_went_over
  have k_went_over := F_went_over.kp
  have a_went_over : PySem.W.nsIn K mainGlobals "went_over" = some (some (.ref (He.ga K "went_over"))) := He.eqO_ok (c.t.d.fact 44 (f := .glo "went_over") rfl)
  have b_went_over := F_went_over.binds (ps := ["net", "row", "numbers"]) fun _ _ _ _ _ _ us hl => match us, hl with | [_, _, _], _ => rfl
  obtain ⟨fd_turned, F0_turned⟩ := c.t.d.def_ 45 (d := dd_turned) rfl
  have F_turned : Fun K "turned" "turned" s_turned (He.ga K "turned") fd_turned := fun_of F0_turned
  have k_turned := F_turned.kp
  have a_turned : PySem.W.nsIn K mainGlobals "turned" = some (some (.ref (He.ga K "turned"))) := He.eqO_ok (c.t.d.fact 45 (f := .glo "turned") rfl)
  have b_turned := F_turned.binds (ps := ["net", "state", "word"]) fun _ _ _ _ _ _ us hl => match us, hl with | [_, _, _], _ => rfl
  obtain ⟨fd_overs, F0_overs⟩ := c.t.d.def_ 46 (d := dd_overs) rfl
  have F_overs : Fun K "overs" "overs" s_overs (He.ga K "overs") fd_overs := fun_of F0_overs
  have k_overs := F_overs.kp
  have a_overs : PySem.W.nsIn K mainGlobals "overs" = some (some (.ref (He.ga K "overs"))) := He.eqO_ok (c.t.d.fact 46 (f := .glo "overs") rfl)
  have b_overs := F_overs.binds (ps := ["net", "numbers"]) fun _ _ _ _ _ _ us hl => match us, hl with | [_, _], _ => rfl
  obtain ⟨fd_run, F0_run⟩ := c.t.d.def_ 47 (d := dd_run) rfl
  have F_run : FunD K "run" "run" (defArgs s_run) (defBody s_run) (defScope s_run) [V.non] [] (He.ga K "run") fd_run := F0_run
  have k_run := F_run.kp
  have a_run : PySem.W.nsIn K mainGlobals "run" = some (some (.ref (He.ga K "run"))) := He.eqO_ok (c.t.d.fact 47 (f := .glo "run") rfl)
  obtain ⟨ds_run2, dv_run2, b_run2⟩ := F_run.binds1 (ps := ["net", "words", "state"]) 2 0 (by simp) rfl fun _ _ _ _ _ _ _ us its h1 h2 => match us, its, h1, h2 with | [_, _], [_], _, _ => ⟨_, rfl, rfl⟩
  obtain ⟨fd__law_cell_at, F0__law_cell_at⟩ := c.t.d.def_ 48 (d := dd__law_cell_at) rfl
  have F__law_cell_at : Fun K "_law_cell_at" "_law_cell_at" s__law_cell_at (He.ga K "_law_cell_at") fd__law_cell_at := fun_of F0__law_cell_at
  have k__law_cell_at := F__law_cell_at.kp
  have a__law_cell_at : PySem.W.nsIn K mainGlobals "_law_cell_at" = some (some (.ref (He.ga K "_law_cell_at"))) := He.eqO_ok (c.t.d.fact 48 (f := .glo "_law_cell_at") rfl)
  have b__law_cell_at := F__law_cell_at.binds (ps := ["_law_script", "_law_k"]) fun _ _ _ _ _ _ us hl => match us, hl with | [_, _], _ => rfl
  obtain ⟨fd__law_well, F0__law_well⟩ := c.t.d.def_ 49 (d := dd__law_well) rfl
  have F__law_well : Fun K "_law_well" "_law_well" s__law_well (He.ga K "_law_well") fd__law_well := fun_of F0__law_well
  have k__law_well := F__law_well.kp
  have a__law_well : PySem.W.nsIn K mainGlobals "_law_well" = some (some (.ref (He.ga K "_law_well"))) := He.eqO_ok (c.t.d.fact 49 (f := .glo "_law_well") rfl)
  have b__law_well := F__law_well.binds (ps := ["_law_cell"]) fun _ _ _ _ _ _ us hl => match us, hl with | [_], _ => rfl
  obtain ⟨fd__law_draw, F0__law_draw⟩ := c.t.d.def_ 50 (d := dd__law_draw) rfl
  have F__law_draw : Fun K "_law_draw" "_law_draw" s__law_draw (He.ga K "_law_draw") fd__law_draw := fun_of F0__law_draw
  have k__law_draw := F__law_draw.kp
  have a__law_draw : PySem.W.nsIn K mainGlobals "_law_draw" = some (some (.ref (He.ga K "_law_draw"))) := He.eqO_ok (c.t.d.fact 50 (f := .glo "_law_draw") rfl)
  have b__law_draw := F__law_draw.binds (ps := ["_law_well_here", "_law_many"]) fun _ _ _ _ _ _ us hl => match us, hl with | [_, _], _ => rfl
  obtain ⟨fd__law_form, F0__law_form⟩ := c.t.d.def_ 51 (d := dd__law_form) rfl
  have F__law_form : Fun K "_law_form" "_law_form" s__law_form (He.ga K "_law_form") fd__law_form := fun_of F0__law_form
  have k__law_form := F__law_form.kp
  have a__law_form : PySem.W.nsIn K mainGlobals "_law_form" = some (some (.ref (He.ga K "_law_form"))) := He.eqO_ok (c.t.d.fact 51 (f := .glo "_law_form") rfl)
  have b__law_form := F__law_form.binds (ps := ["_law_well_here", "_law_widths"]) fun _ _ _ _ _ _ us hl => match us, hl with | [_, _], _ => rfl
  obtain ⟨fd__law_word, F0__law_word⟩ := c.t.d.def_ 52 (d := dd__law_word) rfl
  have F__law_word : Fun K "_law_word" "_law_word" s__law_word (He.ga K "_law_word") fd__law_word := fun_of F0__law_word
  have k__law_word := F__law_word.kp
  have a__law_word : PySem.W.nsIn K mainGlobals "_law_word" = some (some (.ref (He.ga K "_law_word"))) := He.eqO_ok (c.t.d.fact 52 (f := .glo "_law_word") rfl)
  have b__law_word := F__law_word.binds (ps := ["_law_form_here", "_law_well_here"]) fun _ _ _ _ _ _ us hl => match us, hl with | [_, _], _ => rfl
  obtain ⟨fd__law_coefficient, F0__law_coefficient⟩ := c.t.d.def_ 53 (d := dd__law_coefficient) rfl
  have F__law_coefficient : Fun K "_law_coefficient" "_law_coefficient" s__law_coefficient (He.ga K "_law_coefficient") fd__law_coefficient := fun_of F0__law_coefficient
  have k__law_coefficient := F__law_coefficient.kp
  have a__law_coefficient : PySem.W.nsIn K mainGlobals "_law_coefficient" = some (some (.ref (He.ga K "_law_coefficient"))) := He.eqO_ok (c.t.d.fact 53 (f := .glo "_law_coefficient") rfl)
  have b__law_coefficient := F__law_coefficient.binds (ps := ["_law_well_here"]) fun _ _ _ _ _ _ us hl => match us, hl with | [_], _ => rfl
  obtain ⟨fd__law_leaf, F0__law_leaf⟩ := c.t.d.def_ 54 (d := dd__law_leaf) rfl
  have F__law_leaf : Fun K "_law_leaf" "_law_leaf" s__law_leaf (He.ga K "_law_leaf") fd__law_leaf := fun_of F0__law_leaf
  have k__law_leaf := F__law_leaf.kp
  have a__law_leaf : PySem.W.nsIn K mainGlobals "_law_leaf" = some (some (.ref (He.ga K "_law_leaf"))) := He.eqO_ok (c.t.d.fact 54 (f := .glo "_law_leaf") rfl)
  have b__law_leaf := F__law_leaf.binds (ps := ["_law_well_here", "_law_held"]) fun _ _ _ _ _ _ us hl => match us, hl with | [_, _], _ => rfl
  obtain ⟨fd__law_begun, F0__law_begun⟩ := c.t.d.def_ 55 (d := dd__law_begun) rfl
  have F__law_begun : Fun K "_law_begun" "_law_begun" s__law_begun (He.ga K "_law_begun") fd__law_begun := fun_of F0__law_begun
  have k__law_begun := F__law_begun.kp
  have a__law_begun : PySem.W.nsIn K mainGlobals "_law_begun" = some (some (.ref (He.ga K "_law_begun"))) := He.eqO_ok (c.t.d.fact 55 (f := .glo "_law_begun") rfl)
  have b__law_begun := F__law_begun.binds (ps := ["_law_well_here", "_law_held"]) fun _ _ _ _ _ _ us hl => match us, hl with | [_, _], _ => rfl
  obtain ⟨fd__law_point, F0__law_point⟩ := c.t.d.def_ 56 (d := dd__law_point) rfl
  have F__law_point : Fun K "_law_point" "_law_point" s__law_point (He.ga K "_law_point") fd__law_point := fun_of F0__law_point
  have k__law_point := F__law_point.kp
  have a__law_point : PySem.W.nsIn K mainGlobals "_law_point" = some (some (.ref (He.ga K "_law_point"))) := He.eqO_ok (c.t.d.fact 56 (f := .glo "_law_point") rfl)
  have b__law_point := F__law_point.binds (ps := ["_law_row", "_law_points", "_law_forms", "_law_enters", "_law_held"]) fun _ _ _ _ _ _ us hl => match us, hl with | [_, _, _, _, _], _ => rfl
  obtain ⟨fd__law_one_more, F0__law_one_more⟩ := c.t.d.def_ 57 (d := dd__law_one_more) rfl
  have F__law_one_more : Fun K "_law_one_more" "_law_one_more" s__law_one_more (He.ga K "_law_one_more") fd__law_one_more := fun_of F0__law_one_more
  have k__law_one_more := F__law_one_more.kp
  have a__law_one_more : PySem.W.nsIn K mainGlobals "_law_one_more" = some (some (.ref (He.ga K "_law_one_more"))) := He.eqO_ok (c.t.d.fact 57 (f := .glo "_law_one_more") rfl)
  have b__law_one_more := F__law_one_more.binds (ps := ["_law_well_here", "_law_rows", "_law_points", "_law_forms", "_law_held"]) fun _ _ _ _ _ _ us hl => match us, hl with | [_, _, _, _, _], _ => rfl
  obtain ⟨fd__law_filled, F0__law_filled⟩ := c.t.d.def_ 58 (d := dd__law_filled) rfl
  have F__law_filled : Fun K "_law_filled" "_law_filled" s__law_filled (He.ga K "_law_filled") fd__law_filled := fun_of F0__law_filled
  have k__law_filled := F__law_filled.kp
  have a__law_filled : PySem.W.nsIn K mainGlobals "_law_filled" = some (some (.ref (He.ga K "_law_filled"))) := He.eqO_ok (c.t.d.fact 58 (f := .glo "_law_filled") rfl)
  have b__law_filled := F__law_filled.binds (ps := ["_law_well_here", "_law_net_here", "_law_many"]) fun _ _ _ _ _ _ us hl => match us, hl with | [_, _, _], _ => rfl
  obtain ⟨fd__law_links, F0__law_links⟩ := c.t.d.def_ 59 (d := dd__law_links) rfl
  have F__law_links : Fun K "_law_links" "_law_links" s__law_links (He.ga K "_law_links") fd__law_links := fun_of F0__law_links
  have k__law_links := F__law_links.kp
  have a__law_links : PySem.W.nsIn K mainGlobals "_law_links" = some (some (.ref (He.ga K "_law_links"))) := He.eqO_ok (c.t.d.fact 59 (f := .glo "_law_links") rfl)
  have b__law_links := F__law_links.binds (ps := ["_law_well_here", "_law_net_here"]) fun _ _ _ _ _ _ us hl => match us, hl with | [_, _], _ => rfl
  obtain ⟨fd__law_built_of, F0__law_built_of⟩ := c.t.d.def_ 60 (d := dd__law_built_of) rfl
  have F__law_built_of : Fun K "_law_built_of" "_law_built_of" s__law_built_of (He.ga K "_law_built_of") fd__law_built_of := fun_of F0__law_built_of
  have k__law_built_of := F__law_built_of.kp
  have a__law_built_of : PySem.W.nsIn K mainGlobals "_law_built_of" = some (some (.ref (He.ga K "_law_built_of"))) := He.eqO_ok (c.t.d.fact 60 (f := .glo "_law_built_of") rfl)
  have b__law_built_of := F__law_built_of.binds (ps := ["_law_well_here", "_law_forms", "_law_enters", "_law_held", "_law_most"]) fun _ _ _ _ _ _ us hl => match us, hl with | [_, _, _, _, _], _ => rfl
  obtain ⟨fd__law_net, F0__law_net⟩ := c.t.d.def_ 61 (d := dd__law_net) rfl
  have F__law_net : Fun K "_law_net" "_law_net" s__law_net (He.ga K "_law_net") fd__law_net := fun_of F0__law_net
  have k__law_net := F__law_net.kp
  have a__law_net : PySem.W.nsIn K mainGlobals "_law_net" = some (some (.ref (He.ga K "_law_net"))) := He.eqO_ok (c.t.d.fact 61 (f := .glo "_law_net") rfl)
  have b__law_net := F__law_net.binds (ps := ["_law_well_here", "_law_widths", "_law_most"]) fun _ _ _ _ _ _ us hl => match us, hl with | [_, _, _], _ => rfl
  obtain ⟨fd__law_made, F0__law_made⟩ := c.t.d.def_ 62 (d := dd__law_made) rfl
  have F__law_made : Fun K "_law_made" "_law_made" s__law_made (He.ga K "_law_made") fd__law_made := fun_of F0__law_made
  have k__law_made := F__law_made.kp
  have a__law_made : PySem.W.nsIn K mainGlobals "_law_made" = some (some (.ref (He.ga K "_law_made"))) := He.eqO_ok (c.t.d.fact 62 (f := .glo "_law_made") rfl)
  have b__law_made := F__law_made.binds (ps := ["_law_net_here"]) fun _ _ _ _ _ _ us hl => match us, hl with | [_], _ => rfl
  obtain ⟨fd__law_due, F0__law_due⟩ := c.t.d.def_ 63 (d := dd__law_due) rfl
  have F__law_due : Fun K "_law_due" "_law_due" s__law_due (He.ga K "_law_due") fd__law_due := fun_of F0__law_due
  have k__law_due := F__law_due.kp
  have a__law_due : PySem.W.nsIn K mainGlobals "_law_due" = some (some (.ref (He.ga K "_law_due"))) := He.eqO_ok (c.t.d.fact 63 (f := .glo "_law_due") rfl)
  have b__law_due := F__law_due.binds (ps := ["_law_net_here", "_law_some"]) fun _ _ _ _ _ _ us hl => match us, hl with | [_, _], _ => rfl
  obtain ⟨fd__law_told, F0__law_told⟩ := c.t.d.def_ 64 (d := dd__law_told) rfl
  have F__law_told : Fun K "_law_told" "_law_told" s__law_told (He.ga K "_law_told") fd__law_told := fun_of F0__law_told
  have k__law_told := F__law_told.kp
  have a__law_told : PySem.W.nsIn K mainGlobals "_law_told" = some (some (.ref (He.ga K "_law_told"))) := He.eqO_ok (c.t.d.fact 64 (f := .glo "_law_told") rfl)
  have b__law_told := F__law_told.binds (ps := ["_law_found", "_law_due_here"]) fun _ _ _ _ _ _ us hl => match us, hl with | [_, _], _ => rfl
  obtain ⟨fd__law_refused, F0__law_refused⟩ := c.t.d.def_ 65 (d := dd__law_refused) rfl
  have F__law_refused : Fun K "_law_refused" "_law_refused" s__law_refused (He.ga K "_law_refused") fd__law_refused := fun_of F0__law_refused
  have k__law_refused := F__law_refused.kp
  have a__law_refused : PySem.W.nsIn K mainGlobals "_law_refused" = some (some (.ref (He.ga K "_law_refused"))) := He.eqO_ok (c.t.d.fact 65 (f := .glo "_law_refused") rfl)
  have b__law_refused := F__law_refused.binds (ps := ["_law_made_here", "_law_some"]) fun _ _ _ _ _ _ us hl => match us, hl with | [_, _], _ => rfl
  obtain ⟨fd__law_gone, F0__law_gone⟩ := c.t.d.def_ 66 (d := dd__law_gone) rfl
  have F__law_gone : Fun K "_law_gone" "_law_gone" s__law_gone (He.ga K "_law_gone") fd__law_gone := fun_of F0__law_gone
  have k__law_gone := F__law_gone.kp
  have a__law_gone : PySem.W.nsIn K mainGlobals "_law_gone" = some (some (.ref (He.ga K "_law_gone"))) := He.eqO_ok (c.t.d.fact 66 (f := .glo "_law_gone") rfl)
  have b__law_gone := F__law_gone.binds (ps := ["_law_made_here", "_law_words"]) fun _ _ _ _ _ _ us hl => match us, hl with | [_, _], _ => rfl
  obtain ⟨fd__law_refusals, F0__law_refusals⟩ := c.t.d.def_ 67 (d := dd__law_refusals) rfl
  have F__law_refusals : Fun K "_law_refusals" "_law_refusals" s__law_refusals (He.ga K "_law_refusals") fd__law_refusals := fun_of F0__law_refusals
  have k__law_refusals := F__law_refusals.kp
  have a__law_refusals : PySem.W.nsIn K mainGlobals "_law_refusals" = some (some (.ref (He.ga K "_law_refusals"))) := He.eqO_ok (c.t.d.fact 67 (f := .glo "_law_refusals") rfl)
  have b__law_refusals := F__law_refusals.binds (ps := ["_law_well_here", "_law_net_here", "_law_made_here", "_law_some"]) fun _ _ _ _ _ _ us hl => match us, hl with | [_, _, _, _], _ => rfl
  obtain ⟨fd__law_no_room, F0__law_no_room⟩ := c.t.d.def_ 68 (d := dd__law_no_room) rfl
  have F__law_no_room : Fun K "_law_no_room" "_law_no_room" s__law_no_room (He.ga K "_law_no_room") fd__law_no_room := fun_of F0__law_no_room
  have k__law_no_room := F__law_no_room.kp
  have a__law_no_room : PySem.W.nsIn K mainGlobals "_law_no_room" = some (some (.ref (He.ga K "_law_no_room"))) := He.eqO_ok (c.t.d.fact 68 (f := .glo "_law_no_room") rfl)
  have b__law_no_room := F__law_no_room.binds (ps := ["_law_made_here", "_law_some"]) fun _ _ _ _ _ _ us hl => match us, hl with | [_, _], _ => rfl
  obtain ⟨fd__law_room_right, F0__law_room_right⟩ := c.t.d.def_ 69 (d := dd__law_room_right) rfl
  have F__law_room_right : Fun K "_law_room_right" "_law_room_right" s__law_room_right (He.ga K "_law_room_right") fd__law_room_right := fun_of F0__law_room_right
  have k__law_room_right := F__law_room_right.kp
  have a__law_room_right : PySem.W.nsIn K mainGlobals "_law_room_right" = some (some (.ref (He.ga K "_law_room_right"))) := He.eqO_ok (c.t.d.fact 69 (f := .glo "_law_room_right") rfl)
  have b__law_room_right := F__law_room_right.binds (ps := ["_law_well_here"]) fun _ _ _ _ _ _ us hl => match us, hl with | [_], _ => rfl
  obtain ⟨fd_law, F0_law⟩ := c.t.d.def_ 70 (d := dd_law) rfl
  have F_law : Fun K "law" "law" s_law (He.ga K "law") fd_law := fun_of F0_law
  have k_law := F_law.kp
  have a_law : PySem.W.nsIn K mainGlobals "law" = some (some (.ref (He.ga K "law"))) := He.eqO_ok (c.t.d.fact 70 (f := .glo "law") rfl)
  have b_law := F_law.binds (ps := ["_law_script"]) fun _ _ _ _ _ _ us hl => match us, hl with | [_], _ => rfl
  have aC_C : PySem.W.nsIn K mainGlobals "Form" = some (some (.ref C)) := by
    rw [← e_C]
    exact He.eqO_ok (c.t.d.fact 71 (f := .glo "Form") rfl)
  have cl_C : Cls K C := by
    rw [← e_C]
    exact He.cls_ok (c.t.d.fact 72 (f := .cls "Form") rfl)
  have pg_C := cl_C.1
  have hd_C := cl_C.2
  have po_C := cl_C.3
  have sa_C := cl_C.4
  have mk0_C : Mk K C (He.ma K (He.ga K "Form") "__init__") := by
    rw [← e_C]
    exact He.mkr_ok (c.t.d.fact 73 (f := .mkr "Form") rfl)
  have mk_C := mk0_C.1
  have kc_C := mk0_C.4
  have n_C_width : NoAttr K C "width" := by
    rw [← e_C]
    exact He.noat_ok (c.t.d.fact 74 (f := .noat "Form" "width") rfl)
  have n_C_point : NoAttr K C "point" := by
    rw [← e_C]
    exact He.noat_ok (c.t.d.fact 75 (f := .noat "Form" "point") rfl)
  have n_C_manner : NoAttr K C "manner" := by
    rw [← e_C]
    exact He.noat_ok (c.t.d.fact 76 (f := .noat "Form" "manner") rfl)
  have n_C_ends : NoAttr K C "ends" := by
    rw [← e_C]
    exact He.noat_ok (c.t.d.fact 77 (f := .noat "Form" "ends") rfl)
  have aC_CN : PySem.W.nsIn K mainGlobals "Net" = some (some (.ref CN)) := by
    rw [← e_CN]
    exact He.eqO_ok (c.t.d.fact 78 (f := .glo "Net") rfl)
  have cl_CN : Cls K CN := by
    rw [← e_CN]
    exact He.cls_ok (c.t.d.fact 79 (f := .cls "Net") rfl)
  have pg_CN := cl_CN.1
  have hd_CN := cl_CN.2
  have po_CN := cl_CN.3
  have sa_CN := cl_CN.4
  have mk0_CN : Mk K CN (He.ma K (He.ga K "Net") "__init__") := by
    rw [← e_CN]
    exact He.mkr_ok (c.t.d.fact 80 (f := .mkr "Net") rfl)
  have mk_CN := mk0_CN.1
  have kc_CN := mk0_CN.4
  have n_CN_form_list : NoAttr K CN "form_list" := by
    rw [← e_CN]
    exact He.noat_ok (c.t.d.fact 81 (f := .noat "Net" "form_list") rfl)
  have n_CN_enters_at : NoAttr K CN "enters_at" := by
    rw [← e_CN]
    exact He.noat_ok (c.t.d.fact 82 (f := .noat "Net" "enters_at") rfl)
  have n_CN_row_list : NoAttr K CN "row_list" := by
    rw [← e_CN]
    exact He.noat_ok (c.t.d.fact 83 (f := .noat "Net" "row_list") rfl)
  have n_CN_hold_list : NoAttr K CN "hold_list" := by
    rw [← e_CN]
    exact He.noat_ok (c.t.d.fact 84 (f := .noat "Net" "hold_list") rfl)
  have n_CN_out_at : NoAttr K CN "out_at" := by
    rw [← e_CN]
    exact He.noat_ok (c.t.d.fact 85 (f := .noat "Net" "out_at") rfl)
  have n_CN_point_list : NoAttr K CN "point_list" := by
    rw [← e_CN]
    exact He.noat_ok (c.t.d.fact 86 (f := .noat "Net" "point_list") rfl)
  obtain ⟨fd_Form_least, F0_Form_least⟩ := c.t.d.def_ 71 (d := dd_Form_least) rfl
  have F_Form_least : Fun K "least" "Form.least" s_Form_least (He.ma K (He.ga K "Form") "least") fd_Form_least := fun_of F0_Form_least
  have k_Form_least := F_Form_least.kp
  have m0_Form_least : Meth K C "least" (He.ma K (He.ga K "Form") "least") := by
    rw [← e_C]
    exact He.meth_ok (c.t.d.fact 87 (f := .meth "Form" "least") rfl)
  have a_Form_least := m0_Form_least.1
  have i_Form_least := m0_Form_least.2
  have b_Form_least := F_Form_least.binds (ps := ["self"]) fun _ _ _ _ _ _ us hl => match us, hl with | [_], _ => rfl
  obtain ⟨fd_Form_greatest, F0_Form_greatest⟩ := c.t.d.def_ 72 (d := dd_Form_greatest) rfl
  have F_Form_greatest : Fun K "greatest" "Form.greatest" s_Form_greatest (He.ma K (He.ga K "Form") "greatest") fd_Form_greatest := fun_of F0_Form_greatest
  have k_Form_greatest := F_Form_greatest.kp
  have m0_Form_greatest : Meth K C "greatest" (He.ma K (He.ga K "Form") "greatest") := by
    rw [← e_C]
    exact He.meth_ok (c.t.d.fact 88 (f := .meth "Form" "greatest") rfl)
  have a_Form_greatest := m0_Form_greatest.1
  have i_Form_greatest := m0_Form_greatest.2
  have b_Form_greatest := F_Form_greatest.binds (ps := ["self"]) fun _ _ _ _ _ _ us hl => match us, hl with | [_], _ => rfl
  obtain ⟨fd_Form_has, F0_Form_has⟩ := c.t.d.def_ 73 (d := dd_Form_has) rfl
  have F_Form_has : Fun K "has" "Form.has" s_Form_has (He.ma K (He.ga K "Form") "has") fd_Form_has := fun_of F0_Form_has
  have k_Form_has := F_Form_has.kp
  have m0_Form_has : Meth K C "has" (He.ma K (He.ga K "Form") "has") := by
    rw [← e_C]
    exact He.meth_ok (c.t.d.fact 89 (f := .meth "Form" "has") rfl)
  have a_Form_has := m0_Form_has.1
  have i_Form_has := m0_Form_has.2
  have b_Form_has := F_Form_has.binds (ps := ["self", "thing"]) fun _ _ _ _ _ _ us hl => match us, hl with | [_, _], _ => rfl
  obtain ⟨fd_Form_word_for, F0_Form_word_for⟩ := c.t.d.def_ 74 (d := dd_Form_word_for) rfl
  have F_Form_word_for : Fun K "word_for" "Form.word_for" s_Form_word_for (He.ma K (He.ga K "Form") "word_for") fd_Form_word_for := fun_of F0_Form_word_for
  have k_Form_word_for := F_Form_word_for.kp
  have m0_Form_word_for : Meth K C "word_for" (He.ma K (He.ga K "Form") "word_for") := by
    rw [← e_C]
    exact He.meth_ok (c.t.d.fact 90 (f := .meth "Form" "word_for") rfl)
  have a_Form_word_for := m0_Form_word_for.1
  have i_Form_word_for := m0_Form_word_for.2
  have b_Form_word_for := F_Form_word_for.binds (ps := ["self", "number"]) fun _ _ _ _ _ _ us hl => match us, hl with | [_, _], _ => rfl
  obtain ⟨fd_Form_ended, F0_Form_ended⟩ := c.t.d.def_ 75 (d := dd_Form_ended) rfl
  have F_Form_ended : Fun K "ended" "Form.ended" s_Form_ended (He.ma K (He.ga K "Form") "ended") fd_Form_ended := fun_of F0_Form_ended
  have k_Form_ended := F_Form_ended.kp
  have m0_Form_ended : Meth K C "ended" (He.ma K (He.ga K "Form") "ended") := by
    rw [← e_C]
    exact He.meth_ok (c.t.d.fact 91 (f := .meth "Form" "ended") rfl)
  have a_Form_ended := m0_Form_ended.1
  have i_Form_ended := m0_Form_ended.2
  have b_Form_ended := F_Form_ended.binds (ps := ["self", "number"]) fun _ _ _ _ _ _ us hl => match us, hl with | [_, _], _ => rfl
  obtain ⟨fd_Form_kept_at, F0_Form_kept_at⟩ := c.t.d.def_ 76 (d := dd_Form_kept_at) rfl
  have F_Form_kept_at : Fun K "kept_at" "Form.kept_at" s_Form_kept_at (He.ma K (He.ga K "Form") "kept_at") fd_Form_kept_at := fun_of F0_Form_kept_at
  have k_Form_kept_at := F_Form_kept_at.kp
  have m0_Form_kept_at : Meth K C "kept_at" (He.ma K (He.ga K "Form") "kept_at") := by
    rw [← e_C]
    exact He.meth_ok (c.t.d.fact 92 (f := .meth "Form" "kept_at") rfl)
  have a_Form_kept_at := m0_Form_kept_at.1
  have i_Form_kept_at := m0_Form_kept_at.2
  have b_Form_kept_at := F_Form_kept_at.binds (ps := ["self", "number", "point"]) fun _ _ _ _ _ _ us hl => match us, hl with | [_, _, _], _ => rfl
  obtain ⟨fd_Form___eq__, F0_Form___eq__⟩ := c.t.d.def_ 77 (d := dd_Form___eq__) rfl
  have F_Form___eq__ : Fun K "__eq__" "Form.__eq__" s_Form___eq__ (He.ma K (He.ga K "Form") "__eq__") fd_Form___eq__ := fun_of F0_Form___eq__
  have k_Form___eq__ := F_Form___eq__.kp
  have m0_Form___eq__ : Meth K C "__eq__" (He.ma K (He.ga K "Form") "__eq__") := by
    rw [← e_C]
    exact He.meth_ok (c.t.d.fact 93 (f := .meth "Form" "__eq__") rfl)
  have a_Form___eq__ := m0_Form___eq__.1
  have i_Form___eq__ := m0_Form___eq__.2
  have b_Form___eq__ := F_Form___eq__.binds (ps := ["self", "other"]) fun _ _ _ _ _ _ us hl => match us, hl with | [_, _], _ => rfl
  obtain ⟨fd_Net_forms, F0_Net_forms⟩ := c.t.d.def_ 78 (d := dd_Net_forms) rfl
  have F_Net_forms : Fun K "forms" "Net.forms" s_Net_forms (He.ma K (He.ga K "Net") "forms") fd_Net_forms := fun_of F0_Net_forms
  have k_Net_forms := F_Net_forms.kp
  have m0_Net_forms : Meth K CN "forms" (He.ma K (He.ga K "Net") "forms") := by
    rw [← e_CN]
    exact He.meth_ok (c.t.d.fact 94 (f := .meth "Net" "forms") rfl)
  have a_Net_forms := m0_Net_forms.1
  have i_Net_forms := m0_Net_forms.2
  have b_Net_forms := F_Net_forms.binds (ps := ["self"]) fun _ _ _ _ _ _ us hl => match us, hl with | [_], _ => rfl
  obtain ⟨fd_Net_rows, F0_Net_rows⟩ := c.t.d.def_ 79 (d := dd_Net_rows) rfl
  have F_Net_rows : Fun K "rows" "Net.rows" s_Net_rows (He.ma K (He.ga K "Net") "rows") fd_Net_rows := fun_of F0_Net_rows
  have k_Net_rows := F_Net_rows.kp
  have m0_Net_rows : Meth K CN "rows" (He.ma K (He.ga K "Net") "rows") := by
    rw [← e_CN]
    exact He.meth_ok (c.t.d.fact 95 (f := .meth "Net" "rows") rfl)
  have a_Net_rows := m0_Net_rows.1
  have i_Net_rows := m0_Net_rows.2
  have b_Net_rows := F_Net_rows.binds (ps := ["self"]) fun _ _ _ _ _ _ us hl => match us, hl with | [_], _ => rfl
  obtain ⟨fd_Net_holds, F0_Net_holds⟩ := c.t.d.def_ 80 (d := dd_Net_holds) rfl
  have F_Net_holds : Fun K "holds" "Net.holds" s_Net_holds (He.ma K (He.ga K "Net") "holds") fd_Net_holds := fun_of F0_Net_holds
  have k_Net_holds := F_Net_holds.kp
  have m0_Net_holds : Meth K CN "holds" (He.ma K (He.ga K "Net") "holds") := by
    rw [← e_CN]
    exact He.meth_ok (c.t.d.fact 96 (f := .meth "Net" "holds") rfl)
  have a_Net_holds := m0_Net_holds.1
  have i_Net_holds := m0_Net_holds.2
  have b_Net_holds := F_Net_holds.binds (ps := ["self"]) fun _ _ _ _ _ _ us hl => match us, hl with | [_], _ => rfl
  obtain ⟨fd_Net_points, F0_Net_points⟩ := c.t.d.def_ 81 (d := dd_Net_points) rfl
  have F_Net_points : Fun K "points" "Net.points" s_Net_points (He.ma K (He.ga K "Net") "points") fd_Net_points := fun_of F0_Net_points
  have k_Net_points := F_Net_points.kp
  have m0_Net_points : Meth K CN "points" (He.ma K (He.ga K "Net") "points") := by
    rw [← e_CN]
    exact He.meth_ok (c.t.d.fact 97 (f := .meth "Net" "points") rfl)
  have a_Net_points := m0_Net_points.1
  have i_Net_points := m0_Net_points.2
  have b_Net_points := F_Net_points.binds (ps := ["self"]) fun _ _ _ _ _ _ us hl => match us, hl with | [_], _ => rfl
  obtain ⟨fd_Net_enters, F0_Net_enters⟩ := c.t.d.def_ 82 (d := dd_Net_enters) rfl
  have F_Net_enters : Fun K "enters" "Net.enters" s_Net_enters (He.ma K (He.ga K "Net") "enters") fd_Net_enters := fun_of F0_Net_enters
  have k_Net_enters := F_Net_enters.kp
  have m0_Net_enters : Meth K CN "enters" (He.ma K (He.ga K "Net") "enters") := by
    rw [← e_CN]
    exact He.meth_ok (c.t.d.fact 98 (f := .meth "Net" "enters") rfl)
  have a_Net_enters := m0_Net_enters.1
  have i_Net_enters := m0_Net_enters.2
  have b_Net_enters := F_Net_enters.binds (ps := ["self"]) fun _ _ _ _ _ _ us hl => match us, hl with | [_], _ => rfl
  obtain ⟨fd_Net_out, F0_Net_out⟩ := c.t.d.def_ 83 (d := dd_Net_out) rfl
  have F_Net_out : Fun K "out" "Net.out" s_Net_out (He.ma K (He.ga K "Net") "out") fd_Net_out := fun_of F0_Net_out
  have k_Net_out := F_Net_out.kp
  have m0_Net_out : Meth K CN "out" (He.ma K (He.ga K "Net") "out") := by
    rw [← e_CN]
    exact He.meth_ok (c.t.d.fact 99 (f := .meth "Net" "out") rfl)
  have a_Net_out := m0_Net_out.1
  have i_Net_out := m0_Net_out.2
  have b_Net_out := F_Net_out.binds (ps := ["self"]) fun _ _ _ _ _ _ us hl => match us, hl with | [_], _ => rfl
  obtain ⟨fd_Net_keeps, F0_Net_keeps⟩ := c.t.d.def_ 84 (d := dd_Net_keeps) rfl
  have F_Net_keeps : Fun K "keeps" "Net.keeps" s_Net_keeps (He.ma K (He.ga K "Net") "keeps") fd_Net_keeps := fun_of F0_Net_keeps
  have k_Net_keeps := F_Net_keeps.kp
  have m0_Net_keeps : Meth K CN "keeps" (He.ma K (He.ga K "Net") "keeps") := by
    rw [← e_CN]
    exact He.meth_ok (c.t.d.fact 100 (f := .meth "Net" "keeps") rfl)
  have a_Net_keeps := m0_Net_keeps.1
  have i_Net_keeps := m0_Net_keeps.2
  have b_Net_keeps := F_Net_keeps.binds (ps := ["self"]) fun _ _ _ _ _ _ us hl => match us, hl with | [_], _ => rfl
  obtain ⟨fd_Net_start, F0_Net_start⟩ := c.t.d.def_ 85 (d := dd_Net_start) rfl
  have F_Net_start : Fun K "start" "Net.start" s_Net_start (He.ma K (He.ga K "Net") "start") fd_Net_start := fun_of F0_Net_start
  have k_Net_start := F_Net_start.kp
  have m0_Net_start : Meth K CN "start" (He.ma K (He.ga K "Net") "start") := by
    rw [← e_CN]
    exact He.meth_ok (c.t.d.fact 101 (f := .meth "Net" "start") rfl)
  have a_Net_start := m0_Net_start.1
  have i_Net_start := m0_Net_start.2
  have b_Net_start := F_Net_start.binds (ps := ["self"]) fun _ _ _ _ _ _ us hl => match us, hl with | [_], _ => rfl
  obtain ⟨fd_Net___len__, F0_Net___len__⟩ := c.t.d.def_ 86 (d := dd_Net___len__) rfl
  have F_Net___len__ : Fun K "__len__" "Net.__len__" s_Net___len__ (He.ma K (He.ga K "Net") "__len__") fd_Net___len__ := fun_of F0_Net___len__
  have k_Net___len__ := F_Net___len__.kp
  have m0_Net___len__ : Meth K CN "__len__" (He.ma K (He.ga K "Net") "__len__") := by
    rw [← e_CN]
    exact He.meth_ok (c.t.d.fact 102 (f := .meth "Net" "__len__") rfl)
  have a_Net___len__ := m0_Net___len__.1
  have i_Net___len__ := m0_Net___len__.2
  have b_Net___len__ := F_Net___len__.binds (ps := ["self"]) fun _ _ _ _ _ _ us hl => match us, hl with | [_], _ => rfl
  obtain ⟨fd_Net___eq__, F0_Net___eq__⟩ := c.t.d.def_ 87 (d := dd_Net___eq__) rfl
  have F_Net___eq__ : Fun K "__eq__" "Net.__eq__" s_Net___eq__ (He.ma K (He.ga K "Net") "__eq__") fd_Net___eq__ := fun_of F0_Net___eq__
  have k_Net___eq__ := F_Net___eq__.kp
  have m0_Net___eq__ : Meth K CN "__eq__" (He.ma K (He.ga K "Net") "__eq__") := by
    rw [← e_CN]
    exact He.meth_ok (c.t.d.fact 103 (f := .meth "Net" "__eq__") rfl)
  have a_Net___eq__ := m0_Net___eq__.1
  have i_Net___eq__ := m0_Net___eq__.2
  have b_Net___eq__ := F_Net___eq__.binds (ps := ["self", "other"]) fun _ _ _ _ _ _ us hl => match us, hl with | [_, _], _ => rfl
  obtain ⟨fd_Net___init__, F0_Net___init__⟩ := c.t.d.def_ 88 (d := dd_Net___init__) rfl
  have F_Net___init__ : Fun K "__init__" "Net.__init__" s_Net___init__ (He.ma K (He.ga K "Net") "__init__") fd_Net___init__ := fun_of F0_Net___init__
  have k_Net___init__ := F_Net___init__.kp
  have m0_Net___init__ : Meth K CN "__init__" (He.ma K (He.ga K "Net") "__init__") := by
    rw [← e_CN]
    exact He.meth_ok (c.t.d.fact 104 (f := .meth "Net" "__init__") rfl)
  have a_Net___init__ := m0_Net___init__.1
  have i_Net___init__ := m0_Net___init__.2
  have b_Net___init__ := F_Net___init__.binds (ps := ["self", "forms", "enters", "rows", "holds", "out"]) fun _ _ _ _ _ _ us hl => match us, hl with | [_, _, _, _, _, _], _ => rfl
  have aC_CE : PySem.W.nsIn K mainGlobals "EchoError" = some (some (.ref CE)) := by
    rw [← e_CE]
    exact He.eqO_ok (c.t.d.fact 105 (f := .glo "EchoError") rfl)
  have aC_CC : PySem.W.nsIn K mainGlobals "NoChoice" = some (some (.ref CC)) := by
    rw [← e_CC]
    exact He.eqO_ok (c.t.d.fact 106 (f := .glo "NoChoice") rfl)
  have aC_CB : PySem.W.nsIn K mainGlobals "BadNet" = some (some (.ref CB)) := by
    rw [← e_CB]
    exact He.eqO_ok (c.t.d.fact 107 (f := .glo "BadNet") rfl)
  have ei_CB : PySem.W.excInitIn K (He.ga K "BadNet") PySem.ErrX.bmA "ArithmeticError.__new__" = true := of_decide_eq_true (ex_at c.more (i := 0) (b := decide (PySem.W.excInitIn K (He.ga K "BadNet") PySem.ErrX.bmA "ArithmeticError.__new__" = true)) rfl)
  rw [e_CB] at ei_CB
  have eo_CB : PySem.W.excOver K (He.ga K "BadNet") PySem.ErrX.bmA = true := of_decide_eq_true (ex_at c.more (i := 1) (b := decide (PySem.W.excOver K (He.ga K "BadNet") PySem.ErrX.bmA = true)) rfl)
  rw [e_CB] at eo_CB
  have sa_CB : PySem.W.findIn K (.ref (He.ga K "BadNet")) "__setattr__" = some (some (.builtin "object.__setattr__")) := of_decide_eq_true (ex_at c.more (i := 2) (b := decide (PySem.W.findIn K (.ref (He.ga K "BadNet")) "__setattr__" = some (some (.builtin "object.__setattr__")))) rfl)
  rw [e_CB] at sa_CB
  have ga_CB : PySem.W.findIn K (.ref (He.ga K "BadNet")) "__getattribute__" = some (some (.builtin "BaseException.__getattribute__")) := of_decide_eq_true (ex_at c.more (i := 3) (b := decide (PySem.W.findIn K (.ref (He.ga K "BadNet")) "__getattribute__" = some (some (.builtin "BaseException.__getattribute__")))) rfl)
  rw [e_CB] at ga_CB
  have gg_CB : PySem.W.findIn K (.ref (He.ga K "BadNet")) "__getattr__" = some none := of_decide_eq_true (ex_at c.more (i := 4) (b := decide (PySem.W.findIn K (.ref (He.ga K "BadNet")) "__getattr__" = some none)) rfl)
  rw [e_CB] at gg_CB
  have kC_CB : PySem.W.keepIn K (.ref (He.ga K "BadNet")) = true := of_decide_eq_true (ex_at c.more (i := 5) (b := decide (PySem.W.keepIn K (.ref (He.ga K "BadNet")) = true)) rfl)
  rw [e_CB] at kC_CB
  have ex_CB : PySem.W.subIn K (.ref (He.ga K "BadNet")) (.type "BaseException") = some true := of_decide_eq_true (ex_at c.more (i := 6) (b := decide (PySem.W.subIn K (.ref (He.ga K "BadNet")) (.type "BaseException") = some true)) rfl)
  rw [e_CB] at ex_CB
  have ty_CB : PySem.W.typeIn K (.ref (He.ga K "BadNet")) = some (.type "type") := of_decide_eq_true (ex_at c.more (i := 7) (b := decide (PySem.W.typeIn K (.ref (He.ga K "BadNet")) = some (.type "type"))) rfl)
  rw [e_CB] at ty_CB
  have hd_CB : PySem.W.hasDictIn K (He.ga K "BadNet") = true := of_decide_eq_true (ex_at c.more (i := 8) (b := decide (PySem.W.hasDictIn K (He.ga K "BadNet") = true)) rfl)
  rw [e_CB] at hd_CB
  have ha_CB : PySem.W.findIn K (.ref (He.ga K "BadNet")) "__class__" = some (some (.builtin "object.__class__")) := of_decide_eq_true (ex_at c.more (i := 9) (b := decide (PySem.W.findIn K (.ref (He.ga K "BadNet")) "__class__" = some (some (.builtin "object.__class__")))) rfl)
  rw [e_CB] at ha_CB
  have hn_CB : PySem.W.specialIn K (.builtin "object.__class__") "__get__" = some (some (.builtin "getset_descriptor.__get__")) := of_decide_eq_true (ex_at c.more (i := 10) (b := decide (PySem.W.specialIn K (.builtin "object.__class__") "__get__" = some (some (.builtin "getset_descriptor.__get__")))) rfl)
  have ht_CB : PySem.W.takesIn K (.builtin "object.__class__") = some true := of_decide_eq_true (ex_at c.more (i := 11) (b := decide (PySem.W.takesIn K (.builtin "object.__class__") = some true)) rfl)
  have hm_CB : PySem.W.mroIn K (He.ga K "BadNet") (.type "object") = some true := of_decide_eq_true (ex_at c.more (i := 12) (b := decide (PySem.W.mroIn K (He.ga K "BadNet") (.type "object") = some true)) rfl)
  rw [e_CB] at hm_CB
  have iC_CB : PySem.W.findIn K (.ref (He.ga K "BadNet")) "__init__" = some (some (.ref (iniA K "BadNet"))) := of_decide_eq_true (ex_at c.more (i := 13) (b := decide (PySem.W.findIn K (.ref (He.ga K "BadNet")) "__init__" = some (some (.ref (iniA K "BadNet"))))) rfl)
  rw [e_CB] at iC_CB
  have tC_CB : PySem.W.typeIn K (.ref (iniA K "BadNet")) = some (.type "function") := of_decide_eq_true (ex_at c.more (i := 14) (b := decide (PySem.W.typeIn K (.ref (iniA K "BadNet")) = some (.type "function"))) rfl)
  have nf_CB : PySem.W.findIn K (.ref (He.ga K "BadNet")) "part" = some none := of_decide_eq_true (ex_at c.more (i := 15) (b := decide (PySem.W.findIn K (.ref (He.ga K "BadNet")) "part" = some none)) rfl)
  rw [e_CB] at nf_CB
  have su_CB : PySem.W.ks_superIn K (He.ga K "BadNet") (He.ga K "BadNet") "__init__" = some (some (.builtin "ArithmeticError.__init__")) := of_decide_eq_true (ex_at c.more (i := 16) (b := decide (PySem.W.ks_superIn K (He.ga K "BadNet") (He.ga K "BadNet") "__init__" = some (some (.builtin "ArithmeticError.__init__")))) rfl)
  rw [e_CB] at su_CB
  have sA_CB : PySem.W.subIn K (.ref (He.ga K "BadNet")) (.type "ArithmeticError") = some true := of_decide_eq_true (ex_at c.more (i := 17) (b := decide (PySem.W.subIn K (.ref (He.ga K "BadNet")) (.type "ArithmeticError") = some true)) rfl)
  rw [e_CB] at sA_CB
  have sf_CB : PySem.W.mroIn K (He.ga K "BadNet") (.ref (He.ga K "BadNet")) = some true := of_decide_eq_true (ex_at c.more (i := 18) (b := decide (PySem.W.mroIn K (He.ga K "BadNet") (.ref (He.ga K "BadNet")) = some true)) rfl)
  rw [e_CB] at sf_CB
  have th_CB : PySem.W.nsIn K cStatics "thirdparty.any" = some none := of_decide_eq_true (ex_at c.more (i := 19) (b := decide (PySem.W.nsIn K cStatics "thirdparty.any" = some none)) rfl)
  have ms_CB : PySem.W.nsIn K mainGlobals "super" = some none := of_decide_eq_true (ex_at c.more (i := 20) (b := decide (PySem.W.nsIn K mainGlobals "super" = some none)) rfl)
  obtain ⟨cc_CB, dV_CB, ih_CB⟩ := errD_ok (d := ed_CB) hfile (ini_at c.ini (i := 0) rfl) (ex_at c.more (i := 21) (b := ed_CB.ok K) rfl)
  have EC_CB : PySem.ErrX.ErrC K mg "BadNet" CB := ⟨PySem.W.mg_of X G aC_CB, ei_CB, eo_CB, sa_CB, ga_CB, gg_CB, kC_CB, ex_CB, ty_CB, hd_CB⟩
  have cl_CB := ih_CB.cell
  rw [show He.ga K ed_CB.x = CB from e_CB] at cl_CB
  have IC_CB : PySem.ErrX.IniC l.prog K mg CB (iniA K "BadNet") cc_CB "BadNet.__init__" "part" s_BadNet___init__ dV_CB := ⟨iC_CB, tC_CB, ih_CB.fn, cl_CB, nf_CB, su_CB, sA_CB, sf_CB, th_CB, PySem.W.mg_none_of X G ms_CB, htop⟩
  have XC_CB : ExcC K CB := ⟨ga_CB, gg_CB, ex_CB, hd_CB, ha_CB, hn_CB, ht_CB, hm_CB⟩
  have nc_x : PySem.W.excIn K (He.ga K "NoChoice") PySem.ErrX.bmA "ArithmeticError.__new__" = true := of_decide_eq_true (ex_at c.more (i := 22) (b := decide (PySem.W.excIn K (He.ga K "NoChoice") PySem.ErrX.bmA "ArithmeticError.__new__" = true)) rfl)
  rw [e_CC] at nc_x
  have nc_k : PySem.W.keepIn K (.ref (He.ga K "NoChoice")) = true := of_decide_eq_true (ex_at c.more (i := 23) (b := decide (PySem.W.keepIn K (.ref (He.ga K "NoChoice")) = true)) rfl)
  rw [e_CC] at nc_k
  have nc_b : PySem.W.subIn K (.ref (He.ga K "NoChoice")) (.type "BaseException") = some true := of_decide_eq_true (ex_at c.more (i := 24) (b := decide (PySem.W.subIn K (.ref (He.ga K "NoChoice")) (.type "BaseException") = some true)) rfl)
  rw [e_CC] at nc_b
  have nc_t : PySem.W.typeIn K (.ref (He.ga K "NoChoice")) = some (.type "type") := of_decide_eq_true (ex_at c.more (i := 25) (b := decide (PySem.W.typeIn K (.ref (He.ga K "NoChoice")) = some (.type "type"))) rfl)
  rw [e_CC] at nc_t
  have nc_ga : PySem.W.findIn K (.ref (He.ga K "NoChoice")) "__getattribute__" = some (some (.builtin "BaseException.__getattribute__")) := of_decide_eq_true (ex_at c.more (i := 26) (b := decide (PySem.W.findIn K (.ref (He.ga K "NoChoice")) "__getattribute__" = some (some (.builtin "BaseException.__getattribute__")))) rfl)
  rw [e_CC] at nc_ga
  have nc_gg : PySem.W.findIn K (.ref (He.ga K "NoChoice")) "__getattr__" = some none := of_decide_eq_true (ex_at c.more (i := 27) (b := decide (PySem.W.findIn K (.ref (He.ga K "NoChoice")) "__getattr__" = some none)) rfl)
  rw [e_CC] at nc_gg
  have nc_hd : PySem.W.hasDictIn K (He.ga K "NoChoice") = true := of_decide_eq_true (ex_at c.more (i := 28) (b := decide (PySem.W.hasDictIn K (He.ga K "NoChoice") = true)) rfl)
  rw [e_CC] at nc_hd
  have nc_ha : PySem.W.findIn K (.ref (He.ga K "NoChoice")) "__class__" = some (some (.builtin "object.__class__")) := of_decide_eq_true (ex_at c.more (i := 29) (b := decide (PySem.W.findIn K (.ref (He.ga K "NoChoice")) "__class__" = some (some (.builtin "object.__class__")))) rfl)
  rw [e_CC] at nc_ha
  have nc_hn : PySem.W.specialIn K (.builtin "object.__class__") "__get__" = some (some (.builtin "getset_descriptor.__get__")) := of_decide_eq_true (ex_at c.more (i := 30) (b := decide (PySem.W.specialIn K (.builtin "object.__class__") "__get__" = some (some (.builtin "getset_descriptor.__get__")))) rfl)
  have nc_ht : PySem.W.takesIn K (.builtin "object.__class__") = some true := of_decide_eq_true (ex_at c.more (i := 31) (b := decide (PySem.W.takesIn K (.builtin "object.__class__") = some true)) rfl)
  have nc_hm : PySem.W.mroIn K (He.ga K "NoChoice") (.type "object") = some true := of_decide_eq_true (ex_at c.more (i := 32) (b := decide (PySem.W.mroIn K (He.ga K "NoChoice") (.type "object") = some true)) rfl)
  rw [e_CC] at nc_hm
  have nc_xm : PySem.W.exmOne K (.ref (He.ga K "NoChoice")) (.ref (He.ga K "NoChoice")) = some true := of_decide_eq_true (ex_at c.more (i := 33) (b := decide (PySem.W.exmOne K (.ref (He.ga K "NoChoice")) (.ref (He.ga K "NoChoice")) = some true)) rfl)
  rw [e_CC] at nc_xm
  have nc_ki : PySem.W.kitOne K (.ref (He.ga K "NoChoice")) (.ref (He.ga K "EchoError")) = some true := of_decide_eq_true (ex_at c.more (i := 34) (b := decide (PySem.W.kitOne K (.ref (He.ga K "NoChoice")) (.ref (He.ga K "EchoError")) = some true)) rfl)
  rw [e_CE] at nc_ki
  rw [e_CC] at nc_ki
  have nb_xm : PySem.W.exmOne K (.ref (He.ga K "BadNet")) (.ref (He.ga K "BadNet")) = some true := of_decide_eq_true (ex_at c.more (i := 35) (b := decide (PySem.W.exmOne K (.ref (He.ga K "BadNet")) (.ref (He.ga K "BadNet")) = some true)) rfl)
  rw [e_CB] at nb_xm
  have nb_kE : PySem.W.kitOne K (.ref (He.ga K "BadNet")) (.ref (He.ga K "EchoError")) = some true := of_decide_eq_true (ex_at c.more (i := 36) (b := decide (PySem.W.kitOne K (.ref (He.ga K "BadNet")) (.ref (He.ga K "EchoError")) = some true)) rfl)
  rw [e_CE] at nb_kE
  rw [e_CB] at nb_kE
  have nb_kC : PySem.W.kitOne K (.ref (He.ga K "BadNet")) (.ref (He.ga K "NoChoice")) = some false := of_decide_eq_true (ex_at c.more (i := 37) (b := decide (PySem.W.kitOne K (.ref (He.ga K "BadNet")) (.ref (He.ga K "NoChoice")) = some false)) rfl)
  rw [e_CC] at nb_kC
  rw [e_CB] at nb_kC
  have nb_nA : PySem.W.findIn K (.ref (He.ga K "BadNet")) "at" = some none := of_decide_eq_true (ex_at c.more (i := 38) (b := decide (PySem.W.findIn K (.ref (He.ga K "BadNet")) "at" = some none)) rfl)
  rw [e_CB] at nb_nA
  have nn_ne : PySem.W.findIn K (.ref (He.ga K "Net")) "__ne__" = some (some (.builtin "object.__ne__")) := of_decide_eq_true (ex_at c.more (i := 39) (b := decide (PySem.W.findIn K (.ref (He.ga K "Net")) "__ne__" = some (some (.builtin "object.__ne__")))) rfl)
  rw [e_CN] at nn_ne
  have nn_ob : PySem.W.subIn K (.ref (He.ga K "Net")) (.type "object") = some true := of_decide_eq_true (ex_at c.more (i := 40) (b := decide (PySem.W.subIn K (.ref (He.ga K "Net")) (.type "object") = some true)) rfl)
  rw [e_CN] at nn_ob
  have nn_fne : PySem.W.findIn K (.ref (He.ga K "Form")) "__ne__" = some (some (.builtin "object.__ne__")) := of_decide_eq_true (ex_at c.more (i := 41) (b := decide (PySem.W.findIn K (.ref (He.ga K "Form")) "__ne__" = some (some (.builtin "object.__ne__")))) rfl)
  rw [e_C] at nn_fne
  have nn_fob : PySem.W.subIn K (.ref (He.ga K "Form")) (.type "object") = some true := of_decide_eq_true (ex_at c.more (i := 42) (b := decide (PySem.W.subIn K (.ref (He.ga K "Form")) (.type "object") = some true)) rfl)
  rw [e_C] at nn_fob
  obtain ⟨fd_Form___init__, F0_Form___init__⟩ := c.t.d.def_ 89 (d := dd_Form___init__) rfl
  have F_Form___init__ : FunD K "__init__" "Form.__init__" (defArgs s_Form___init__) (defBody s_Form___init__) (defScope s_Form___init__) [V.non, V.int 0, V.str "half", V.str "wrap"] [] (He.ma K (He.ga K "Form") "__init__") fd_Form___init__ := F0_Form___init__
  have k_Form___init__ := F_Form___init__.kp
  have m0_Form___init__ : Meth K C "__init__" (He.ma K (He.ga K "Form") "__init__") := by
    rw [← e_C]
    exact He.meth_ok (c.t.d.fact 108 (f := .meth "Form" "__init__") rfl)
  have a_Form___init__ := m0_Form___init__.1
  have i_Form___init__ := m0_Form___init__.2
  obtain ⟨ds_Form4, dv_Form4, b_Form4⟩ := F_Form___init__.binds1 (ps := ["self", "width", "point", "manner", "ends"]) 5 4 (by simp) rfl fun _ _ _ _ _ _ _ us its h1 h2 => match us, its, h1, h2 with | [_, _, _, _, _], [_, _, _, _], _, _ => ⟨_, rfl, rfl⟩
  cases dv_Form4
  obtain ⟨tk_LEAST_WIDTH, gm_LEAST_WIDTH⟩ := He.int_ok X G (c.t.d.fact 109 (f := .int "LEAST_WIDTH" 2) rfl)
  obtain ⟨tk_GREATEST_WIDTH, gm_GREATEST_WIDTH⟩ := He.int_ok X G (c.t.d.fact 110 (f := .int "GREATEST_WIDTH" 64) rfl)
  obtain ⟨tk_GREATEST_POINT, gm_GREATEST_POINT⟩ := He.int_ok X G (c.t.d.fact 111 (f := .int "GREATEST_POINT" 64) rfl)
  obtain ⟨tk_MOST_FORMS, gm_MOST_FORMS⟩ := He.int_ok X G (c.t.d.fact 112 (f := .int "MOST_FORMS" 12) rfl)
  obtain ⟨tk_MOST_ROWS, gm_MOST_ROWS⟩ := He.int_ok X G (c.t.d.fact 113 (f := .int "MOST_ROWS" 60) rfl)
  obtain ⟨tk_MOST_HOLDS, gm_MOST_HOLDS⟩ := He.int_ok X G (c.t.d.fact 114 (f := .int "MOST_HOLDS" 6) rfl)
  obtain ⟨tk_FACTOR_END, gm_FACTOR_END⟩ := He.int_ok X G (c.t.d.fact 115 (f := .int "FACTOR_END" 9223372036854775808) rfl)
  obtain ⟨tk_GREATEST_SHIFT, gm_GREATEST_SHIFT⟩ := He.int_ok X G (c.t.d.fact 116 (f := .int "GREATEST_SHIFT" 64) rfl)
  obtain ⟨tk_GREATEST_ROW_POINT, gm_GREATEST_ROW_POINT⟩ := He.int_ok X G (c.t.d.fact 117 (f := .int "GREATEST_ROW_POINT" 200) rfl)
  have gm_ENDS : mg "ENDS" = some (.ref A_ENDS) := by
    rw [← e_A_ENDS]
    exact He.glo_ok X G (c.t.d.fact 118 (f := .glo "ENDS") rfl)
  have T_ENDS : ∀ H, SqT K H A_ENDS [V.str "wrap", V.str "stop"] := by
    rw [← e_A_ENDS]
    exact fun H => He.tupB_ok (ex_at c.more (i := 43) (b := He.tupB K "ENDS" [.str "wrap", .str "stop"]) rfl) H
  have gm_MANNERS : mg "MANNERS" = some (.ref A_MANNERS) := by
    rw [← e_A_MANNERS]
    exact He.glo_ok X G (c.t.d.fact 119 (f := .glo "MANNERS") rfl)
  obtain ⟨es_MANNERS, dn_MANNERS, KD_MANNERS⟩ := c.t.tab 0 (t := (fun K => He.ga K "MANNERS", ["down", "up", "in", "out", "half", "even", "far"])) rfl
  replace KD_MANNERS : KDict K w A_MANNERS es_MANNERS dn_MANNERS := by
    rw [← e_A_MANNERS]
    exact KD_MANNERS
  have d_MANNERS_down : PySem.W.nsIn K (He.ga K "MANNERS") "down" = some (some (.ref (He.ga K "downward"))) := of_decide_eq_true (ex_at c.more (i := 44) (b := decide (PySem.W.nsIn K (He.ga K "MANNERS") "down" = some (some (.ref (He.ga K "downward"))))) rfl)
  rw [e_A_MANNERS] at d_MANNERS_down
  have d_MANNERS_up : PySem.W.nsIn K (He.ga K "MANNERS") "up" = some (some (.ref (He.ga K "upward"))) := of_decide_eq_true (ex_at c.more (i := 45) (b := decide (PySem.W.nsIn K (He.ga K "MANNERS") "up" = some (some (.ref (He.ga K "upward"))))) rfl)
  rw [e_A_MANNERS] at d_MANNERS_up
  have d_MANNERS_in : PySem.W.nsIn K (He.ga K "MANNERS") "in" = some (some (.ref (He.ga K "inward"))) := of_decide_eq_true (ex_at c.more (i := 46) (b := decide (PySem.W.nsIn K (He.ga K "MANNERS") "in" = some (some (.ref (He.ga K "inward"))))) rfl)
  rw [e_A_MANNERS] at d_MANNERS_in
  have d_MANNERS_out : PySem.W.nsIn K (He.ga K "MANNERS") "out" = some (some (.ref (He.ga K "outward"))) := of_decide_eq_true (ex_at c.more (i := 47) (b := decide (PySem.W.nsIn K (He.ga K "MANNERS") "out" = some (some (.ref (He.ga K "outward"))))) rfl)
  rw [e_A_MANNERS] at d_MANNERS_out
  have d_MANNERS_half : PySem.W.nsIn K (He.ga K "MANNERS") "half" = some (some (.ref (He.ga K "nearest_greater"))) := of_decide_eq_true (ex_at c.more (i := 48) (b := decide (PySem.W.nsIn K (He.ga K "MANNERS") "half" = some (some (.ref (He.ga K "nearest_greater"))))) rfl)
  rw [e_A_MANNERS] at d_MANNERS_half
  have d_MANNERS_even : PySem.W.nsIn K (He.ga K "MANNERS") "even" = some (some (.ref (He.ga K "nearest_even"))) := of_decide_eq_true (ex_at c.more (i := 49) (b := decide (PySem.W.nsIn K (He.ga K "MANNERS") "even" = some (some (.ref (He.ga K "nearest_even"))))) rfl)
  rw [e_A_MANNERS] at d_MANNERS_even
  have d_MANNERS_far : PySem.W.nsIn K (He.ga K "MANNERS") "far" = some (some (.ref (He.ga K "nearest_far"))) := of_decide_eq_true (ex_at c.more (i := 50) (b := decide (PySem.W.nsIn K (He.ga K "MANNERS") "far" = some (some (.ref (He.ga K "nearest_far"))))) rfl)
  rw [e_A_MANNERS] at d_MANNERS_far
  have gm_POINT_RULES : mg "POINT_RULES" = some (.ref A_POINT_RULES) := by
    rw [← e_A_POINT_RULES]
    exact He.glo_ok X G (c.t.d.fact 120 (f := .glo "POINT_RULES") rfl)
  obtain ⟨es_POINT_RULES, dn_POINT_RULES, KD_POINT_RULES⟩ := c.t.tab 1 (t := (fun K => He.ga K "POINT_RULES", ["in", "old", "times", "plus", "less", "move", "keep"])) rfl
  replace KD_POINT_RULES : KDict K w A_POINT_RULES es_POINT_RULES dn_POINT_RULES := by
    rw [← e_A_POINT_RULES]
    exact KD_POINT_RULES
  have d_POINT_RULES_in : PySem.W.nsIn K (He.ga K "POINT_RULES") "in" = some (some (.ref (He.ga K "in_point"))) := of_decide_eq_true (ex_at c.more (i := 51) (b := decide (PySem.W.nsIn K (He.ga K "POINT_RULES") "in" = some (some (.ref (He.ga K "in_point"))))) rfl)
  rw [e_A_POINT_RULES] at d_POINT_RULES_in
  have d_POINT_RULES_old : PySem.W.nsIn K (He.ga K "POINT_RULES") "old" = some (some (.ref (He.ga K "old_point"))) := of_decide_eq_true (ex_at c.more (i := 52) (b := decide (PySem.W.nsIn K (He.ga K "POINT_RULES") "old" = some (some (.ref (He.ga K "old_point"))))) rfl)
  rw [e_A_POINT_RULES] at d_POINT_RULES_old
  have d_POINT_RULES_times : PySem.W.nsIn K (He.ga K "POINT_RULES") "times" = some (some (.ref (He.ga K "times_point"))) := of_decide_eq_true (ex_at c.more (i := 53) (b := decide (PySem.W.nsIn K (He.ga K "POINT_RULES") "times" = some (some (.ref (He.ga K "times_point"))))) rfl)
  rw [e_A_POINT_RULES] at d_POINT_RULES_times
  have d_POINT_RULES_plus : PySem.W.nsIn K (He.ga K "POINT_RULES") "plus" = some (some (.ref (He.ga K "sum_point"))) := of_decide_eq_true (ex_at c.more (i := 54) (b := decide (PySem.W.nsIn K (He.ga K "POINT_RULES") "plus" = some (some (.ref (He.ga K "sum_point"))))) rfl)
  rw [e_A_POINT_RULES] at d_POINT_RULES_plus
  have d_POINT_RULES_less : PySem.W.nsIn K (He.ga K "POINT_RULES") "less" = some (some (.ref (He.ga K "sum_point"))) := of_decide_eq_true (ex_at c.more (i := 55) (b := decide (PySem.W.nsIn K (He.ga K "POINT_RULES") "less" = some (some (.ref (He.ga K "sum_point"))))) rfl)
  rw [e_A_POINT_RULES] at d_POINT_RULES_less
  have d_POINT_RULES_move : PySem.W.nsIn K (He.ga K "POINT_RULES") "move" = some (some (.ref (He.ga K "move_point"))) := of_decide_eq_true (ex_at c.more (i := 56) (b := decide (PySem.W.nsIn K (He.ga K "POINT_RULES") "move" = some (some (.ref (He.ga K "move_point"))))) rfl)
  rw [e_A_POINT_RULES] at d_POINT_RULES_move
  have d_POINT_RULES_keep : PySem.W.nsIn K (He.ga K "POINT_RULES") "keep" = some (some (.ref (He.ga K "keep_point"))) := of_decide_eq_true (ex_at c.more (i := 57) (b := decide (PySem.W.nsIn K (He.ga K "POINT_RULES") "keep" = some (some (.ref (He.ga K "keep_point"))))) rfl)
  rw [e_A_POINT_RULES] at d_POINT_RULES_keep
  have gm_ROW_LENGTHS : mg "ROW_LENGTHS" = some (.ref A_ROW_LENGTHS) := by
    rw [← e_A_ROW_LENGTHS]
    exact He.glo_ok X G (c.t.d.fact 121 (f := .glo "ROW_LENGTHS") rfl)
  obtain ⟨es_ROW_LENGTHS, dn_ROW_LENGTHS, KD_ROW_LENGTHS⟩ := c.t.tab 2 (t := (fun K => He.ga K "ROW_LENGTHS", ["in", "old", "times", "plus", "less", "move", "keep"])) rfl
  replace KD_ROW_LENGTHS : KDict K w A_ROW_LENGTHS es_ROW_LENGTHS dn_ROW_LENGTHS := by
    rw [← e_A_ROW_LENGTHS]
    exact KD_ROW_LENGTHS
  obtain ⟨tk_ROW_LENGTHS_in, d_ROW_LENGTHS_in⟩ : ∃ t, PySem.W.nsIn K A_ROW_LENGTHS "in" = some (some (.int 1 t)) := by
    rw [← e_A_ROW_LENGTHS]
    exact val_int (i := 0) (ex_at c.more (i := 58) (b := He.valsB K (He.ga K "ROW_LENGTHS") [("in", .int 1), ("old", .int 2), ("times", .int 4), ("plus", .int 3), ("less", .int 3), ("move", .int 3), ("keep", .int 3)]) rfl) rfl
  obtain ⟨tk_ROW_LENGTHS_old, d_ROW_LENGTHS_old⟩ : ∃ t, PySem.W.nsIn K A_ROW_LENGTHS "old" = some (some (.int 2 t)) := by
    rw [← e_A_ROW_LENGTHS]
    exact val_int (i := 1) (ex_at c.more (i := 58) (b := He.valsB K (He.ga K "ROW_LENGTHS") [("in", .int 1), ("old", .int 2), ("times", .int 4), ("plus", .int 3), ("less", .int 3), ("move", .int 3), ("keep", .int 3)]) rfl) rfl
  obtain ⟨tk_ROW_LENGTHS_times, d_ROW_LENGTHS_times⟩ : ∃ t, PySem.W.nsIn K A_ROW_LENGTHS "times" = some (some (.int 4 t)) := by
    rw [← e_A_ROW_LENGTHS]
    exact val_int (i := 2) (ex_at c.more (i := 58) (b := He.valsB K (He.ga K "ROW_LENGTHS") [("in", .int 1), ("old", .int 2), ("times", .int 4), ("plus", .int 3), ("less", .int 3), ("move", .int 3), ("keep", .int 3)]) rfl) rfl
  obtain ⟨tk_ROW_LENGTHS_plus, d_ROW_LENGTHS_plus⟩ : ∃ t, PySem.W.nsIn K A_ROW_LENGTHS "plus" = some (some (.int 3 t)) := by
    rw [← e_A_ROW_LENGTHS]
    exact val_int (i := 3) (ex_at c.more (i := 58) (b := He.valsB K (He.ga K "ROW_LENGTHS") [("in", .int 1), ("old", .int 2), ("times", .int 4), ("plus", .int 3), ("less", .int 3), ("move", .int 3), ("keep", .int 3)]) rfl) rfl
  obtain ⟨tk_ROW_LENGTHS_less, d_ROW_LENGTHS_less⟩ : ∃ t, PySem.W.nsIn K A_ROW_LENGTHS "less" = some (some (.int 3 t)) := by
    rw [← e_A_ROW_LENGTHS]
    exact val_int (i := 4) (ex_at c.more (i := 58) (b := He.valsB K (He.ga K "ROW_LENGTHS") [("in", .int 1), ("old", .int 2), ("times", .int 4), ("plus", .int 3), ("less", .int 3), ("move", .int 3), ("keep", .int 3)]) rfl) rfl
  obtain ⟨tk_ROW_LENGTHS_move, d_ROW_LENGTHS_move⟩ : ∃ t, PySem.W.nsIn K A_ROW_LENGTHS "move" = some (some (.int 3 t)) := by
    rw [← e_A_ROW_LENGTHS]
    exact val_int (i := 5) (ex_at c.more (i := 58) (b := He.valsB K (He.ga K "ROW_LENGTHS") [("in", .int 1), ("old", .int 2), ("times", .int 4), ("plus", .int 3), ("less", .int 3), ("move", .int 3), ("keep", .int 3)]) rfl) rfl
  obtain ⟨tk_ROW_LENGTHS_keep, d_ROW_LENGTHS_keep⟩ : ∃ t, PySem.W.nsIn K A_ROW_LENGTHS "keep" = some (some (.int 3 t)) := by
    rw [← e_A_ROW_LENGTHS]
    exact val_int (i := 6) (ex_at c.more (i := 58) (b := He.valsB K (He.ga K "ROW_LENGTHS") [("in", .int 1), ("old", .int 2), ("times", .int 4), ("plus", .int 3), ("less", .int 3), ("move", .int 3), ("keep", .int 3)]) rfl) rfl
  have fx_ha : PySem.W.findIn K (.ref (He.ga K "Form")) "__class__" = some (some (.builtin "object.__class__")) := of_decide_eq_true (ex_at c.more (i := 59) (b := decide (PySem.W.findIn K (.ref (He.ga K "Form")) "__class__" = some (some (.builtin "object.__class__")))) rfl)
  rw [e_C] at fx_ha
  have fx_hn : PySem.W.specialIn K (.builtin "object.__class__") "__get__" = some (some (.builtin "getset_descriptor.__get__")) := of_decide_eq_true (ex_at c.more (i := 60) (b := decide (PySem.W.specialIn K (.builtin "object.__class__") "__get__" = some (some (.builtin "getset_descriptor.__get__")))) rfl)
  have fx_ht : PySem.W.takesIn K (.builtin "object.__class__") = some true := of_decide_eq_true (ex_at c.more (i := 61) (b := decide (PySem.W.takesIn K (.builtin "object.__class__") = some true)) rfl)
  have fx_hm : PySem.W.mroIn K (He.ga K "Form") (.type "object") = some true := of_decide_eq_true (ex_at c.more (i := 62) (b := decide (PySem.W.mroIn K (He.ga K "Form") (.type "object") = some true)) rfl)
  rw [e_C] at fx_hm
  have fx_kC : PySem.W.kitOne K (.ref (He.ga K "Form")) (.ref (He.ga K "Form")) = some true := of_decide_eq_true (ex_at c.more (i := 63) (b := decide (PySem.W.kitOne K (.ref (He.ga K "Form")) (.ref (He.ga K "Form")) = some true)) rfl)
  rw [e_C] at fx_kC
  have fy_ha : PySem.W.findIn K (.ref (He.ga K "Net")) "__class__" = some (some (.builtin "object.__class__")) := of_decide_eq_true (ex_at c.more (i := 64) (b := decide (PySem.W.findIn K (.ref (He.ga K "Net")) "__class__" = some (some (.builtin "object.__class__")))) rfl)
  rw [e_CN] at fy_ha
  have fy_hm : PySem.W.mroIn K (He.ga K "Net") (.type "object") = some true := of_decide_eq_true (ex_at c.more (i := 65) (b := decide (PySem.W.mroIn K (He.ga K "Net") (.type "object") = some true)) rfl)
  rw [e_CN] at fy_hm
  have fy_kC : PySem.W.kitOne K (.ref (He.ga K "Net")) (.ref (He.ga K "Net")) = some true := of_decide_eq_true (ex_at c.more (i := 66) (b := decide (PySem.W.kitOne K (.ref (He.ga K "Net")) (.ref (He.ga K "Net")) = some true)) rfl)
  rw [e_CN] at fy_kC
  have zf_isinstance : mg "isinstance" = none := He.free_ok X G (c.t.d.fact 122 (f := .free "isinstance") rfl)
  have zf_int : mg "int" = none := He.free_ok X G (c.t.d.fact 123 (f := .free "int") rfl)
  have zf_bool : mg "bool" = none := He.free_ok X G (c.t.d.fact 124 (f := .free "bool") rfl)
  have zf_abs : mg "abs" = none := He.free_ok X G (c.t.d.fact 125 (f := .free "abs") rfl)
  have zf_str : mg "str" = none := He.free_ok X G (c.t.d.fact 126 (f := .free "str") rfl)
  have zf_len : mg "len" = none := He.free_ok X G (c.t.d.fact 127 (f := .free "len") rfl)
  have zf_max : mg "max" = none := He.free_ok X G (c.t.d.fact 128 (f := .free "max") rfl)
  have zf_tuple : mg "tuple" = none := He.free_ok X G (c.t.d.fact 129 (f := .free "tuple") rfl)
  have zf_list : mg "list" = none := He.free_ok X G (c.t.d.fact 130 (f := .free "list") rfl)
  have zf_enumerate : mg "enumerate" = none := He.free_ok X G (c.t.d.fact 131 (f := .free "enumerate") rfl)
  have zf_all : mg "all" = none := He.free_ok X G (c.t.d.fact 132 (f := .free "all") rfl)
  have zf_sorted : mg "sorted" = none := He.free_ok X G (c.t.d.fact 133 (f := .free "sorted") rfl)
  have zf_set : mg "set" = none := He.free_ok X G (c.t.d.fact 134 (f := .free "set") rfl)
  have zf_zip : mg "zip" = none := He.free_ok X G (c.t.d.fact 135 (f := .free "zip") rfl)
  have zf_range : mg "range" = none := He.free_ok X G (c.t.d.fact 136 (f := .free "range") rfl)
  have zf_min : mg "min" = none := He.free_ok X G (c.t.d.fact 137 (f := .free "min") rfl)

  have z : Zs mg := ⟨zf_isinstance, zf_int, zf_bool, zf_abs, zf_str, zf_len, zf_max, zf_tuple, zf_list, zf_enumerate, zf_all, zf_sorted, zf_set, zf_zip, zf_range, zf_min⟩
  have e := hfa.symm.trans (PySem.W.mg_of X G a_law)
  cases e
  have FL_law : FunD K "law" "law" (defArgs s_law) (defBody s_law) (defScope s_law) [] [] (He.ga K "law") fd_law := F0_law
  have bl := FunD.bindsA (ps := ["_law_script"]) FL_law fun _ _ _ _ _ _ us hl => match us, hl with | [_], _ => rfl
  refine ⟨_, fun s v => bl s [v] rfl, fun base _ _ => ?_⟩
  have c_is_whole : Cal l.prog w K mg base 1 "is_whole" ["thing"] _ := ⟨_, _, PySem.W.mg_of X G a_is_whole, k_is_whole, b_is_whole, ok_is_whole (k := 0) F_is_whole z⟩
  have c_downward : Cal l.prog w K mg base 1 "downward" ["top", "bottom"] _ := ⟨_, _, PySem.W.mg_of X G a_downward, k_downward, b_downward, ok_downward (k := 0) F_downward⟩
  have c_upward : Cal l.prog w K mg base 1 "upward" ["top", "bottom"] _ := ⟨_, _, PySem.W.mg_of X G a_upward, k_upward, b_upward, ok_upward (k := 0) F_upward⟩
  have c_nearest_greater : Cal l.prog w K mg base 1 "nearest_greater" ["top", "bottom"] _ := ⟨_, _, PySem.W.mg_of X G a_nearest_greater, k_nearest_greater, b_nearest_greater, ok_nearest_greater (k := 0) F_nearest_greater⟩
  have MM : Mans l.prog w K mg base A_MANNERS es_MANNERS dn_MANNERS := ⟨gm_MANNERS, KD_MANNERS, fun m => match m with
    | .down => ⟨_, _, d_MANNERS_down, k_downward, b_downward, ok_downward (k := 1) F_downward⟩
    | .up => ⟨_, _, d_MANNERS_up, k_upward, b_upward, ok_upward (k := 1) F_upward⟩
    | .inn => ⟨_, _, d_MANNERS_in, k_inward, b_inward, ok_inward F_inward c_downward c_upward⟩
    | .out => ⟨_, _, d_MANNERS_out, k_outward, b_outward, ok_outward F_outward c_downward c_upward⟩
    | .half => ⟨_, _, d_MANNERS_half, k_nearest_greater, b_nearest_greater, ok_nearest_greater (k := 1) F_nearest_greater⟩
    | .even => ⟨_, _, d_MANNERS_even, k_nearest_even, b_nearest_even, ok_nearest_even F_nearest_even c_nearest_greater⟩
    | .far => ⟨_, _, d_MANNERS_far, k_nearest_far, b_nearest_far, ok_nearest_far F_nearest_far c_nearest_greater⟩⟩
  have c_is_manner : Cal l.prog w K mg base 1 "is_manner" ["thing"] _ := ⟨_, _, PySem.W.mg_of X G a_is_manner, k_is_manner, b_is_manner, ok_is_manner (k := 0) MM F_is_manner z⟩
  have c_rounded : Cal l.prog w K mg base 3 "rounded" ["value", "manner"] _ := ⟨_, _, PySem.W.mg_of X G a_rounded, k_rounded, b_rounded, ok_rounded MM F_rounded c_is_manner⟩
  have Z : FCst K mg A_ENDS := ⟨⟨_, gm_LEAST_WIDTH⟩, ⟨_, gm_GREATEST_WIDTH⟩, ⟨_, gm_GREATEST_POINT⟩, gm_ENDS, T_ENDS⟩
  have NC : NCst mg := ⟨⟨_, gm_FACTOR_END⟩, ⟨_, gm_GREATEST_SHIFT⟩, ⟨_, gm_GREATEST_ROW_POINT⟩, ⟨_, gm_MOST_FORMS⟩, ⟨_, gm_MOST_ROWS⟩, ⟨_, gm_MOST_HOLDS⟩⟩
  have c_is_width : Cal l.prog w K mg base 2 "is_width" ["thing"] _ := ⟨_, _, PySem.W.mg_of X G a_is_width, k_is_width, b_is_width, ok_is_width Z F_is_width c_is_whole⟩
  have c_is_point : Cal l.prog w K mg base 2 "is_point" ["thing"] _ := ⟨_, _, PySem.W.mg_of X G a_is_point, k_is_point, b_is_point, ok_is_point Z F_is_point z c_is_whole⟩
  have c_is_ends : Cal l.prog w K mg base 1 "is_ends" ["thing"] _ := ⟨_, _, PySem.W.mg_of X G a_is_ends, k_is_ends, b_is_ends, ok_is_ends (k := 0) Z F_is_ends z⟩
  have T : FTxt K mg C := ⟨⟨pg_C, hd_C, po_C, sa_C⟩, n_C_width, n_C_point, n_C_manner, n_C_ends⟩
  have TN : NTxt K mg CN := ⟨⟨pg_CN, hd_CN, po_CN, sa_CN⟩, n_CN_form_list, n_CN_enters_at, n_CN_row_list, n_CN_hold_list, n_CN_out_at, n_CN_point_list⟩
  have IC : IsC K mg C := ⟨PySem.W.mg_of X G aC_C, fx_ha, fx_hn, fx_ht, fx_hm, fx_kC⟩
  have IN : IsN K mg CN := ⟨PySem.W.mg_of X G aC_CN, fy_ha, fx_hn, fx_ht, fy_hm, fy_kC⟩
  have c_Form_4 : CalC l.prog w K mg base 3 "Form" C ["self", "width", "point", "manner", "ends"] [] _ := ⟨_, _, _, ⟨mk_C, a_Form___init__, i_Form___init__, kc_C⟩, PySem.W.mg_of X G aC_C, .nil, b_Form4, ok_Form___init__ T F_Form___init__ c_is_width c_is_point c_is_manner c_is_ends⟩
  have m_least : CalM l.prog w K mg base 1 C "least" ["self"] _ := ⟨_, _, ⟨a_Form_least, i_Form_least, k_Form_least⟩, b_Form_least, ok_Form_least (k := 0) T F_Form_least⟩
  have m_greatest : CalM l.prog w K mg base 1 C "greatest" ["self"] _ := ⟨_, _, ⟨a_Form_greatest, i_Form_greatest, k_Form_greatest⟩, b_Form_greatest, ok_Form_greatest (k := 0) T F_Form_greatest⟩
  have m_has : CalM l.prog w K mg base 2 C "has" ["self", "thing"] _ := ⟨_, _, ⟨a_Form_has, i_Form_has, k_Form_has⟩, b_Form_has, ok_Form_has T F_Form_has c_is_whole m_least m_greatest⟩
  have m_word_for : CalM l.prog w K mg base 3 C "word_for" ["self", "number"] _ := ⟨_, _, ⟨a_Form_word_for, i_Form_word_for, k_Form_word_for⟩, b_Form_word_for, ok_Form_word_for T F_Form_word_for m_has m_least m_greatest⟩
  have m_ended : CalM l.prog w K mg base 4 C "ended" ["self", "number"] _ := ⟨_, _, ⟨a_Form_ended, i_Form_ended, k_Form_ended⟩, b_Form_ended, ok_Form_ended T F_Form_ended m_word_for⟩
  have m_kept_at : CalM l.prog w K mg base 5 C "kept_at" ["self", "number", "point"] _ := ⟨_, _, ⟨a_Form_kept_at, i_Form_kept_at, k_Form_kept_at⟩, b_Form_kept_at, ok_Form_kept_at T F_Form_kept_at c_rounded m_ended⟩
  have c_is_place : Cal l.prog w K mg base 2 "is_place" ["thing", "many"] _ := ⟨_, _, PySem.W.mg_of X G a_is_place, k_is_place, b_is_place, ok_is_place F_is_place c_is_whole⟩
  have c_is_factor : Cal l.prog w K mg base 2 "is_factor" ["thing"] _ := ⟨_, _, PySem.W.mg_of X G a_is_factor, k_is_factor, b_is_factor, ok_is_factor NC F_is_factor z c_is_whole⟩
  have RU : Ruls l.prog w K mg base A_POINT_RULES es_POINT_RULES dn_POINT_RULES := ⟨gm_POINT_RULES, KD_POINT_RULES, fun k => match k with
    | .inn => ⟨_, _, d_POINT_RULES_in, k_in_point, b_in_point, ok_in_point F_in_point⟩
    | .old => ⟨_, _, d_POINT_RULES_old, k_old_point, b_old_point, ok_old_point z c_is_place F_old_point⟩
    | .times => ⟨_, _, d_POINT_RULES_times, k_times_point, b_times_point, ok_times_point NC z c_is_factor c_is_place F_times_point⟩
    | .plus => ⟨_, _, d_POINT_RULES_plus, k_sum_point, b_sum_point, ok_sum_point_plus z c_is_place F_sum_point⟩
    | .less => ⟨_, _, d_POINT_RULES_less, k_sum_point, b_sum_point, ok_sum_point_less z c_is_place F_sum_point⟩
    | .move => ⟨_, _, d_POINT_RULES_move, k_move_point, b_move_point, ok_move_point NC z c_is_whole c_is_place F_move_point⟩
    | .keep => ⟨_, _, d_POINT_RULES_keep, k_keep_point, b_keep_point, ok_keep_point z c_is_place F_keep_point⟩⟩
  have LE : Lens w K mg A_ROW_LENGTHS es_ROW_LENGTHS dn_ROW_LENGTHS := ⟨gm_ROW_LENGTHS, KD_ROW_LENGTHS, fun k => match k with
    | .inn => ⟨_, d_ROW_LENGTHS_in⟩
    | .old => ⟨_, d_ROW_LENGTHS_old⟩
    | .times => ⟨_, d_ROW_LENGTHS_times⟩
    | .plus => ⟨_, d_ROW_LENGTHS_plus⟩
    | .less => ⟨_, d_ROW_LENGTHS_less⟩
    | .move => ⟨_, d_ROW_LENGTHS_move⟩
    | .keep => ⟨_, d_ROW_LENGTHS_keep⟩⟩
  have c_is_written_as_row : Cal l.prog w K mg base 1 "is_written_as_row" ["thing"] _ := ⟨_, _, PySem.W.mg_of X G a_is_written_as_row, k_is_written_as_row, b_is_written_as_row, ok_is_written_as_row (k := 0) LE F_is_written_as_row z⟩
  have c_row_point : Cal l.prog w K mg base 4 "row_point" ["row", "points", "given"] _ := ⟨_, _, PySem.W.mg_of X G a_row_point, k_row_point, b_row_point, ok_row_point RU NC F_row_point z c_is_written_as_row⟩
  have c_check_length : Cal l.prog w K mg base 1 "check_length" ["thing", "part", "least", "most"] _ := ⟨_, _, PySem.W.mg_of X G a_check_length, k_check_length, b_check_length, ok_check_length (k := 0) F_check_length z⟩
  have c_check_forms : Cal l.prog w K mg base 2 "check_forms" ["forms"] _ := ⟨_, _, PySem.W.mg_of X G a_check_forms, k_check_forms, b_check_forms, ok_check_forms T IC NC F_check_forms z c_check_length⟩
  have c_is_hold : Cal l.prog w K mg base 3 "is_hold" ["thing", "forms"] _ := ⟨_, _, PySem.W.mg_of X G a_is_hold, k_is_hold, b_is_hold, ok_is_hold T F_is_hold z c_is_place m_has⟩
  have c_check_holds : Cal l.prog w K mg base 4 "check_holds" ["holds", "forms"] _ := ⟨_, _, PySem.W.mg_of X G a_check_holds, k_check_holds, b_check_holds, ok_check_holds NC F_check_holds z c_check_length c_is_hold⟩
  have c_checked_points : Cal l.prog w K mg base 5 "checked_points" ["rows", "given"] _ := ⟨_, _, PySem.W.mg_of X G a_checked_points, k_checked_points, b_checked_points, ok_checked_points NC F_checked_points z c_check_length c_row_point⟩
  have c_check_links : Cal l.prog w K mg base 3 "check_links" ["holds", "rows"] _ := ⟨_, _, PySem.W.mg_of X G a_check_links, k_check_links, b_check_links, ok_check_links F_check_links z c_is_place⟩
  have c_Net_5 : CalC l.prog w K mg base 6 "Net" CN ["self", "forms", "enters", "rows", "holds", "out"] [] _ := ⟨_, _, _, ⟨mk_CN, a_Net___init__, i_Net___init__, kc_CN⟩, PySem.W.mg_of X G aC_CN, .nil, b_Net___init__, ok_Net___init__ T TN F_Net___init__ z c_check_forms c_is_place c_check_holds c_checked_points c_check_links⟩
  have n_forms : CalM l.prog w K mg base 1 CN "forms" ["self"] _ := ⟨_, _, ⟨a_Net_forms, i_Net_forms, k_Net_forms⟩, b_Net_forms, ok_Net_forms (C := C) (k := 0) TN F_Net_forms z⟩
  have n_rows : CalM l.prog w K mg base 1 CN "rows" ["self"] _ := ⟨_, _, ⟨a_Net_rows, i_Net_rows, k_Net_rows⟩, b_Net_rows, ok_Net_rows (C := C) (k := 0) TN F_Net_rows z⟩
  have n_holds : CalM l.prog w K mg base 1 CN "holds" ["self"] _ := ⟨_, _, ⟨a_Net_holds, i_Net_holds, k_Net_holds⟩, b_Net_holds, ok_Net_holds (C := C) (k := 0) TN F_Net_holds z⟩
  have n_points : CalM l.prog w K mg base 1 CN "points" ["self"] _ := ⟨_, _, ⟨a_Net_points, i_Net_points, k_Net_points⟩, b_Net_points, ok_Net_points (C := C) (k := 0) TN F_Net_points z⟩
  have n_enters : CalM l.prog w K mg base 1 CN "enters" ["self"] _ := ⟨_, _, ⟨a_Net_enters, i_Net_enters, k_Net_enters⟩, b_Net_enters, ok_Net_enters (C := C) (k := 0) TN F_Net_enters⟩
  have c_enter_form : Cal l.prog w K mg base 2 "enter_form" ["net"] _ := ⟨_, _, PySem.W.mg_of X G a_enter_form, k_enter_form, b_enter_form, ok_enter_form TN F_enter_form n_forms n_enters⟩
  have n_start : CalM l.prog w K mg base 1 CN "start" ["self"] _ := ⟨_, _, ⟨a_Net_start, i_Net_start, k_Net_start⟩, b_Net_start, ok_Net_start (C := C) (k := 0) TN F_Net_start z⟩
  have c_sum_number : Cal l.prog w K mg base 1 "sum_number" ["row", "numbers", "points"] _ := ⟨_, _, PySem.W.mg_of X G a_sum_number, k_sum_number, b_sum_number, ok_sum_number (k := 0) F_sum_number z⟩
  have okR := ok_number_of_row (base := base) (P := l.prog) (w := w) T F_number_of_row m_kept_at c_sum_number
  have c_swept : Cal l.prog w K mg base 7 "swept" ["net", "heard", "held", "rule"] _ := ⟨_, _, PySem.W.mg_of X G a_swept, k_swept, b_swept, ok_swept okR k_number_of_row b_number_of_row TN F_swept n_forms n_points n_rows⟩
  have c_is_state : Cal l.prog w K mg base 3 "is_state" ["net", "thing"] _ := ⟨_, _, PySem.W.mg_of X G a_is_state, k_is_state, b_is_state, ok_is_state T TN F_is_state z n_forms n_holds m_has⟩
  have c_check_state : Cal l.prog w K mg base 4 "check_state" ["net", "state"] _ := ⟨_, _, PySem.W.mg_of X G a_check_state, k_check_state, b_check_state, ok_check_state F_check_state c_is_state⟩
  have c_check_word : Cal l.prog w K mg base 3 "check_word" ["net", "word"] _ := ⟨_, _, PySem.W.mg_of X G a_check_word, k_check_word, b_check_word, ok_check_word T F_check_word c_enter_form m_has⟩
  have c_state_behind : Cal l.prog w K mg base 2 "state_behind" ["net", "numbers"] _ := ⟨_, _, PySem.W.mg_of X G a_state_behind, k_state_behind, b_state_behind, ok_state_behind TN F_state_behind z n_holds⟩
  have c_turn_of : Cal l.prog w K mg base 8 "turn_of" ["net", "state", "word"] _ := ⟨_, _, PySem.W.mg_of X G a_turn_of, k_turn_of, b_turn_of, ok_turn_of (PySem.W.mg_of X G a_number_of_row) F_turn_of c_swept c_state_behind⟩
  have c_turned : Cal l.prog w K mg base 9 "turned" ["net", "state", "word"] _ := ⟨_, _, PySem.W.mg_of X G a_turned, k_turned, b_turned, ok_turned F_turned c_check_state c_check_word c_turn_of⟩
  have n_keeps : CalM l.prog w K mg base 1 CN "keeps" ["self"] _ := ⟨_, _, ⟨a_Net_keeps, i_Net_keeps, k_Net_keeps⟩, b_Net_keeps, ok_Net_keeps (C := C) (k := 0) TN F_Net_keeps z⟩
  have c_went_over : Cal l.prog w K mg base 6 "went_over" ["net", "row", "numbers"] _ := ⟨_, _, PySem.W.mg_of X G a_went_over, k_went_over, b_went_over, ok_went_over T TN F_went_over n_forms n_rows n_points m_kept_at⟩
  have c_overs : Cal l.prog w K mg base 7 "overs" ["net", "numbers"] _ := ⟨_, _, PySem.W.mg_of X G a_overs, k_overs, b_overs, ok_overs TN F_overs n_keeps c_went_over⟩
  have c_is_place2 : Cal l.prog w K mg base 2 "is_place" ["thing", "many"] _ := ⟨_, _, PySem.W.mg_of X G a_is_place, k_is_place, b_is_place, ok_is_place2 F_is_place c_is_whole⟩
  have c_is_row_number : Cal l.prog w K mg base 3 "is_row_number" ["net", "thing"] _ := ⟨_, _, PySem.W.mg_of X G a_is_row_number, k_is_row_number, b_is_row_number, ok_is_row_number (ok_Net___len__ (C := C) (k := 0) TN F_Net___len__ z) b_Net___len__ ⟨a_Net___len__, i_Net___len__⟩ F_is_row_number z c_is_place2⟩
  have c_is_keep_number : Cal l.prog w K mg base 4 "is_keep_number" ["net", "thing"] _ := ⟨_, _, PySem.W.mg_of X G a_is_keep_number, k_is_keep_number, b_is_keep_number, ok_is_keep_number TN F_is_keep_number n_rows c_is_row_number⟩
  have n_out : CalM l.prog w K mg base 1 CN "out" ["self"] _ := ⟨_, _, ⟨a_Net_out, i_Net_out, k_Net_out⟩, b_Net_out, ok_Net_out (C := C) (k := 0) TN F_Net_out⟩
  have c_without_width : Cal l.prog w K mg base 5 "without_width" ["form"] _ := ⟨_, _, PySem.W.mg_of X G a_without_width, k_without_width, b_without_width, ok_without_width T F_without_width c_Form_4⟩
  have IB := badnet_ini (P := l.prog) (w := w) nb_nA ih_CB.dfl EC_CB IC_CB
  have cx_check_length : CalX l.prog w K mg base 3 "check_length" ["thing", "part", "least", "most"] [] _ := ⟨_, _, _, PySem.W.mg_of X G a_check_length, k_check_length, .nil, b_check_length, ok_check_lengthX EC_CB IB F_check_length z⟩
  have cx_check_forms : CalX l.prog w K mg base 4 "check_forms" ["forms"] [] _ := ⟨_, _, _, PySem.W.mg_of X G a_check_forms, k_check_forms, .nil, b_check_forms, ok_check_formsX T IC NC F_check_forms z cx_check_length⟩
  have cx_Net_5 : CalCX l.prog w K mg base 6 "Net" CN ["self", "forms", "enters", "rows", "holds", "out"] [] _ := ⟨_, _, _, ⟨mk_CN, a_Net___init__, i_Net___init__, kc_CN⟩, PySem.W.mg_of X G aC_CN, .nil, b_Net___init__, ok_Net___init__X T TN F_Net___init__ z cx_check_forms c_is_place c_check_holds c_checked_points c_check_links⟩
  have NF : NoCh K mg CC := ⟨PySem.W.mg_of X G aC_CC, nc_x, nc_k, nc_b, nc_t⟩
  have cx_freed : CalX l.prog w K mg base 8 "freed" ["net", "rows"] [] _ := ⟨_, _, _, PySem.W.mg_of X G a_freed, k_freed, .nil, b_freed, ok_freed NF T TN F_freed z n_rows n_forms n_holds n_enters n_out c_is_keep_number c_without_width cx_Net_5⟩
  have XX : Errs40 K mg CE CC CB := ⟨PySem.W.mg_of X G aC_CE, PySem.W.mg_of X G aC_CC, PySem.W.mg_of X G aC_CB, ⟨nc_ga, nc_gg, nc_b, nc_hd, nc_ha, nc_hn, nc_ht, nc_hm⟩, XC_CB, nc_xm, nb_xm, nc_ki, nb_kE, nb_kC, nf_CB, nb_nA⟩
  have okE := ok_Form___eq__ (P := l.prog) (w := w) (base := base) (k := 0) T IC F_Form___eq__ z
  have OQ : OwnQ K C _ _ := ⟨a_Form___eq__, i_Form___eq__, b_Form___eq__⟩
  have okN := ok_Net___eq__ (P := l.prog) (w := w) (base := base) TN IN okE OQ F_Net___eq__ z
  have ON : OwnQ K CN _ _ := ⟨a_Net___eq__, i_Net___eq__, b_Net___eq__⟩
  have NN : NoNe K CN := ⟨nn_ne, nn_ob⟩
  have c_first_state : Cal l.prog w K mg base 5 "first_state" ["net", "state"] _ := ⟨_, _, PySem.W.mg_of X G a_first_state, k_first_state, b_first_state, ok_first_state TN F_first_state n_start c_check_state⟩
  have c_check_run : Cal l.prog w K mg base 3 "check_run" ["net", "words"] _ := ⟨_, _, PySem.W.mg_of X G a_check_run, k_check_run, b_check_run, ok_check_run T F_check_run z c_enter_form m_has⟩
  have c_run_2 : CalD l.prog w K mg base 9 "run" ["net", "words", "state"] [V.non] _ := ⟨_, _, _, PySem.W.mg_of X G a_run, k_run, dv_run2, b_run2, ok_run TN F_run z n_out c_first_state c_check_run c_turn_of⟩
  have c__law_cell_at : Cal l.prog w K mg base 1 "_law_cell_at" ["_law_script", "_law_k"] _ := ⟨_, _, PySem.W.mg_of X G a__law_cell_at, k__law_cell_at, b__law_cell_at, ok_cell (k := 0) F__law_cell_at z.len⟩
  have c__law_well : Cal l.prog w K mg base 1 "_law_well" ["_law_cell"] _ := ⟨_, _, PySem.W.mg_of X G a__law_well, k__law_well, b__law_well, ok_well (k := 0) F__law_well z.int⟩
  have c__law_draw : Cal l.prog w K mg base 1 "_law_draw" ["_law_well_here", "_law_many"] _ := ⟨_, _, PySem.W.mg_of X G a__law_draw, k__law_draw, b__law_draw, ok_draw (k := 0) F__law_draw⟩
  have c__law_form : Cal l.prog w K mg base 2 "_law_form" ["_law_well_here", "_law_widths"] _ := ⟨_, _, PySem.W.mg_of X G a__law_form, k__law_form, b__law_form, ok__law_form F__law_form z c__law_draw⟩
  have c__law_word : Cal l.prog w K mg base 2 "_law_word" ["_law_form_here", "_law_well_here"] _ := ⟨_, _, PySem.W.mg_of X G a__law_word, k__law_word, b__law_word, ok__law_word F__law_word c__law_draw⟩
  have c__law_coefficient : Cal l.prog w K mg base 2 "_law_coefficient" ["_law_well_here"] _ := ⟨_, _, PySem.W.mg_of X G a__law_coefficient, k__law_coefficient, b__law_coefficient, ok__law_coefficient F__law_coefficient c__law_draw⟩
  have c__law_leaf : Cal l.prog w K mg base 2 "_law_leaf" ["_law_well_here", "_law_held"] _ := ⟨_, _, PySem.W.mg_of X G a__law_leaf, k__law_leaf, b__law_leaf, ok__law_leaf F__law_leaf z c__law_draw⟩
  have c__law_begun : Cal l.prog w K mg base 3 "_law_begun" ["_law_well_here", "_law_held"] _ := ⟨_, _, PySem.W.mg_of X G a__law_begun, k__law_begun, b__law_begun, ok__law_begun F__law_begun z c__law_draw c__law_leaf⟩
  have c__law_point : Cal l.prog w K mg base 1 "_law_point" ["_law_row", "_law_points", "_law_forms", "_law_enters", "_law_held"] _ := ⟨_, _, PySem.W.mg_of X G a__law_point, k__law_point, b__law_point, ok__law_point (k := 0) F__law_point z⟩
  have c__law_one_more : Cal l.prog w K mg base 3 "_law_one_more" ["_law_well_here", "_law_rows", "_law_points", "_law_forms", "_law_held"] _ := ⟨_, _, PySem.W.mg_of X G a__law_one_more, k__law_one_more, b__law_one_more, ok__law_one_more F__law_one_more z c__law_draw c__law_coefficient c__law_leaf⟩
  have c__law_filled : Cal l.prog w K mg base 4 "_law_filled" ["_law_well_here", "_law_net_here", "_law_many"] _ := ⟨_, _, PySem.W.mg_of X G a__law_filled, k__law_filled, b__law_filled, ok__law_filled F__law_filled z c__law_one_more c__law_point⟩
  have c__law_links : Cal l.prog w K mg base 3 "_law_links" ["_law_well_here", "_law_net_here"] _ := ⟨_, _, PySem.W.mg_of X G a__law_links, k__law_links, b__law_links, ok__law_links F__law_links z c__law_draw c__law_word⟩
  have c__law_built_of : Cal l.prog w K mg base 5 "_law_built_of" ["_law_well_here", "_law_forms", "_law_enters", "_law_held", "_law_most"] _ := ⟨_, _, PySem.W.mg_of X G a__law_built_of, k__law_built_of, b__law_built_of, ok__law_built_of F__law_built_of z c__law_draw c__law_point c__law_begun c__law_filled c__law_links⟩
  have c__law_net : Cal l.prog w K mg base 6 "_law_net" ["_law_well_here", "_law_widths", "_law_most"] _ := ⟨_, _, PySem.W.mg_of X G a__law_net, k__law_net, b__law_net, ok__law_net F__law_net z c__law_draw c__law_form c__law_built_of⟩
  have c__law_made : Cal l.prog w K mg base 8 "_law_made" ["_law_net_here"] _ := ⟨_, _, PySem.W.mg_of X G a__law_made, k__law_made, b__law_made, ok__law_made F__law_made z c_Form_4 c_Net_5⟩
  have c__law_due : Cal l.prog w K mg base 3 "_law_due" ["_law_net_here", "_law_some"] _ := ⟨_, _, PySem.W.mg_of X G a__law_due, k__law_due, b__law_due, ok__law_due (k0 := 1) F__law_due z⟩
  have c__law_told : Cal l.prog w K mg base 6 "_law_told" ["_law_found", "_law_due_here"] _ := ⟨_, _, PySem.W.mg_of X G a__law_told, k__law_told, b__law_told, ok__law_told TN okE OQ F__law_told z c_Form_4 n_rows n_forms n_holds n_enters n_out⟩
  have c__law_refused : Cal l.prog w K mg base 9 "_law_refused" ["_law_made_here", "_law_some"] _ := ⟨_, _, PySem.W.mg_of X G a__law_refused, k__law_refused, b__law_refused, ok__law_refused XX cx_freed F__law_refused z⟩
  have c__law_gone : Cal l.prog w K mg base 10 "_law_gone" ["_law_made_here", "_law_words"] _ := ⟨_, _, PySem.W.mg_of X G a__law_gone, k__law_gone, b__law_gone, ok__law_gone TN F__law_gone z n_start c_turned c_overs⟩
  have c__law_refusals : Cal l.prog w K mg base 10 "_law_refusals" ["_law_well_here", "_law_net_here", "_law_made_here", "_law_some"] _ := ⟨_, _, PySem.W.mg_of X G a__law_refusals, k__law_refusals, b__law_refusals, ok__law_refusals F__law_refusals z c__law_draw c__law_refused⟩
  have c__law_no_room : Cal l.prog w K mg base 9 "_law_no_room" ["_law_made_here", "_law_some"] _ := ⟨_, _, PySem.W.mg_of X G a__law_no_room, k__law_no_room, b__law_no_room, ok__law_no_room XX EC_CB cx_freed F__law_no_room z⟩
  have c__law_room_right : Cal l.prog w K mg base 10 "_law_room_right" ["_law_well_here"] _ := ⟨_, _, PySem.W.mg_of X G a__law_room_right, k__law_room_right, b__law_room_right, ok__law_room_right F__law_room_right z okN ON c__law_draw cx_freed c__law_form c__law_made c__law_told c__law_due c__law_no_room⟩
  exact ok_law F_law z okN ON NN c__law_draw cx_freed c__law_cell_at c__law_well c__law_net c__law_made c__law_told c__law_due c__law_room_right c__law_refusals c__law_word c__law_gone c_run_2

end E1

open PySem PySem.W PySem.Calls PyProof.Rows
set_option maxRecDepth 100000 in
set_option maxHeartbeats 0 in
theorem PySem.Challenge.cw_echobound_k40_nets_freed_holds : PySem.Challenge.rw_echobound_k40_nets_freed.Holds := by
  w_on; o_law
  refine HandSHeadRun.head_any (r := OpenLaw.row PySem.Challenge.rw_echobound_k40_nets_freed) (q := HX.qv) (H := HX.hk) (ob := HX.ob) (M := 5965) (loose := HX.names) (d := HandSHeadRun.topDef (OpenLaw.row PySem.Challenge.rw_echobound_k40_nets_freed).prog 107) (kwd := []) HX.ob_eq (by kernel_rfl) (fun s => by kernel_rfl) HX.run (by kernel_rfl) (by kernel_rfl) (by kernel_rfl) (by rfl) (by first | assumption | decide +kernel) (by decide +kernel) ⟨rfl, rfl, rfl, rfl, rfl, by decide +kernel⟩ ?hw ?hc
  case hw => w_witness2
  case hc =>
    refine L2.walk_ofE (l := PySem.Challenge.rw_echobound_k40_nets_freed) (n := 63) (k := 11) (x := "_law_script") (CX := L2.CX0) rfl (by decide) (by kernel_rfl) ⟨rfl, by decide, by decide⟩ ?F (fun _ _ _ _ z => z)
    intro w mg fa h Y G hmg0
    obtain ⟨K, KX, c⟩ := Y
    have hmg : mg ("law" : PySem.Str) = some (.ref fa) := by
      have e : (HandSHeadRun.topDef (OpenLaw.row PySem.Challenge.rw_echobound_k40_nets_freed).prog 107).name = ("law" : PySem.Str) := by kernel_rfl
      rw [← e]
      exact hmg0
    obtain ⟨fd, hb, hF⟩ := E1.all_mk (l := PySem.Challenge.rw_echobound_k40_nets_freed) rfl rfl rfl rfl rfl rfl rfl rfl rfl KX G hmg (by rfl) (by first | rfl | decide +kernel) c
    exact ⟨K, fd, E1.spLaw K, KX, hb, fun H a ns hl _ hS => ⟨a, ns, rfl, hS, hl, fun _ => rfl⟩, hF⟩
