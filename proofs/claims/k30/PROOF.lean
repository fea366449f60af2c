import PyProof.Rows.All
import Wide.All
import OpenK.AllK
import Wide.FinOn
import HandS.Codes
import HandS.ForMost
import HandS.Wide
import HandS.Zip
import HandS.IsInst
import HandS.Defaults
import HandS.Style
import HandS.ForExc
import HandS.Walk
import HandS.More
import HandS.CallLocal
import HandS.WideBits
import KE.BitLaws
import KE.KBits
import HandS.FStr
import PyProof.FitsInt
import HandS.TryOnly
import HandS.Star
import HandS.Flow
import HandS.OwnEq
import HandS.DeepEq
import HandS.Conv
import OpenK.KEqL
import KE.IntBitsLaws
import KE.GoesMore
import KE.KTurns
import HandS.Iter
import HandS.TupAny
import KE.KEqSeq
import HandS.ExcField
import HandS.ExcIs
import KE.KExcSuper
import KE.KExcInit
import KE.KExcIs
import KE.KLam
import HandS.Lambda
import HandS.EndBits
import HandS.EndTab
import HandS.ExcOwn
import HandS.HeadWalk
import KE.RegKSuper
import KE.RegKIsAll
import KE.RegKTryMore
import KE.KNestM
import KE.KStateDown
import HandS.Words
import HandS.WordsExc
import HandS.Head0
import HandS.Head1
import HandS.Head2
import HandS.HeadEnd
import HandS.HeadHook1
import HandS.HeadHook2
import HandS.HeadHook3
import HandS.HeadHook4
import PySem.Challenge.RW_echobound_k30_turns_refused
set_option Elab.async false
set_option linter.all false
set_option maxRecDepth 100000
set_option maxHeartbeats 4000000
namespace PySem
namespace ErrX
open PySem.W PySem.Calls PyProof.Rows PySem.HandSPX
abbrev bmA : List Value := [.type "ArithmeticError", .type "Exception", .type "BaseException", .type "object"]
/-- what the written part says of an error class under ArithmeticError -/
structure ErrC (K : Frag) (mg : Str → Option Value) (x : Str) (C : Addr) : Prop where
  gC : mg x = some (.ref C)
  ei : excInitIn K C bmA "ArithmeticError.__new__" = true
  eo : excOver K C bmA = true
  sa : findIn K (.ref C) "__setattr__" = some (some (.builtin "object.__setattr__"))
  ga : findIn K (.ref C) "__getattribute__" = some (some (.builtin "BaseException.__getattribute__"))
  gg : findIn K (.ref C) "__getattr__" = some none
  kC : keepIn K (.ref C) = true
  exC : subIn K (.ref C) (.type "BaseException") = some true
  tyC : typeIn K (.ref C) = some (.type "type")
  hdC : hasDictIn K C = true
/-- its __init__: super().__init__(f'..'), then one field of the same name as the parameter -/
structure IniC (prog : Program) (K : Frag) (mg : Str → Option Value) (C fI cc : Addr) (qual fld : Str) (st : Stmt) (dV : Value) : Prop where
  iC : findIn K (.ref C) "__init__" = some (some (.ref fI))
  tC : typeIn K (.ref fI) = some (.type "function")
  fn : ∃ (oc : Value) (od : Option Addr) (kV doc pm : Value) (an : Option Addr) (cda : Addr) (ct : Value) (osl : Array (Option Value)),
    K.lookup fI = some ⟨oc, od, .func (ksFn "__init__" qual (L2.defArgs st) (L2.defBody st) (L2.defScope st) dV kV doc pm an (.ref cda) ct cc), osl⟩ ∧ codeIn K (.ref cda) qual = true ∧
    ∃ (ccl : Value) (cdd : Option Addr) (vs : Array Value) (ccs : Array (Option Value)) (file : Str) (tf : Tok), K.lookup cda = some ⟨ccl, cdd, .fields vs, ccs⟩ ∧ vs[2]? = some (.str file tf) ∧ ((prog.main.file : Str) == file) = true
  cell : ∃ (cl : Value) (cld : Option Addr) (csl : Array (Option Value)), K.lookup cc = some ⟨cl, cld, .cell (some (.ref C)), csl⟩
  noF : findIn K (.ref C) fld = some none
  sup : ks_superIn K C C "__init__" = some (some (.builtin "ArithmeticError.__init__"))
  subA : subIn K (.ref C) (.type "ArithmeticError") = some true
  slf : mroIn K C (.ref C) = some true
  th : nsIn K cStatics "thirdparty.any" = some none
  msup : mg "super" = none
  top : (prog.main.scope.names.lookup ("super" : Str)).isSome = false
/-- the parts of the text -/
inductive FP (fld : Str) : Expr → Prop
  | c {x : Str} {j : Nat} {pos : Pos} (h : x.length ≤ 1000) : FP fld (.Constant (.str x) j pos)
  | f {p q : Pos} : FP fld (.FormattedValue (.Name fld p) (-1) none q)
/-- a value that is written as a text of at most a thousand signs -/
def FmtOk (v : Value) : Prop := (∃ y t, v = .str y t ∧ y.length ≤ 1000) ∨ ∃ i t, v = .int i t ∧ i.natAbs.log2 < 1920 ∧ (toString i : String).length ≤ 1000
section
variable {prog : Program} {w : World} {A : Around} {E : Value → Shared → Prop} {R : Result → Shared → Prop} {s : Shared} {K : Frag} {mg mb : Str → Option Value} {C fI cc : Addr} {qual fld : Str} {st : Stmt}
theorem joins_ok {env : Env} {m : Str → Option Value} {v : Value} (hk : env.scope.kind = .function) (hl : env.kindOf fld = some .local) (hd : (fld == ("__debug__" : Str)) = false) (hv : m fld = some v) (fv : FmtOk v) :
    ∀ (es : List Expr) (acc : Str) (s : Shared) (Q : Str → Shared → Prop), (∀ e ∈ es, FP fld e) → acc.length + 1000 * es.length ≤ 100000 → s.heap.Ns env.locals m →
      (∀ out tk, out.length ≤ 100000 → Q out { s with toks := tk }) → Joins (model prog w) A E (evalEach es env) acc Q s
  | [], acc, s, Q, _, hz, _, hq => by
    have e0 : evalEach [] env = [] := by first | rfl | simp [evalEach]
    rw [e0]
    have := hq acc s.toks (by simpa using hz)
    exact this
  | e :: es, acc, s, Q, hp, hz, hn, hq => by
    have e0 : evalEach (e :: es) env = eval e env :: evalEach es env := by first | rfl | simp [evalEach]
    rw [e0]
    have hp' : ∀ e ∈ es, FP fld e := fun e h => hp e (List.mem_cons_of_mem _ h)
    rw [List.length_cons] at hz
    have step : ∀ (y : Str) (t : Tok) (tk : Nat), y.length ≤ 1000 → ∃ y' t', Value.str y t = .str y' t' ∧ (acc ++ y').length ≤ sizeLine ∧ Joins (model prog w) A E (evalEach es env) (acc ++ y') Q { s with toks := tk } := fun y t tk hy => by
      have hlen : (acc ++ y).length = acc.length + y.length := by first | exact Str.length_append _ _ | simp
      refine ⟨y, t, rfl, ?_, ?_⟩
      · rw [hlen, sizeLine_eq]
        omega
      · exact joins_ok hk hl hd hv fv es (acc ++ y) { s with toks := tk } Q hp' (by rw [hlen]; omega) hn fun out tk' ho => hq out tk' ho
    show wpAny _ _ (eval e env) _ _ _
    cases hp e List.mem_cons_self with
    | c h => exact Calls.Constant_str (step _ _ _ h)
    | f =>
      refine wpAny_FormattedValue_plain (wpAny_Name (wpAny_loadName_local hk hl hn hv ?_) hd)
      rcases fv with ⟨y, t, rfl, hy⟩ | ⟨i, t, rfl, hi, hy⟩
      · exact wpAny_formatField_str (step y t s.toks hy) (step y _ _ hy) (by rw [sizeLine_eq]; omega)
      · exact wpAny_formatField_int hi (step _ _ _ (by rw [ofString_length]; exact hy))
end
end ErrX
end PySem

namespace PySem
namespace ErrX
open PySem.W PySem.Calls PyProof.Rows PySem.HandSPX
/-- a dict with one text for its key -/
theorem one_key {h : Heap} {dx : Addr} {fld : Str} {hs : Int} {tk : Tok} {v : Value} (e : h.get? dx = some (dictOf [⟨hs, .str fld tk, v⟩] 1)) : h.Ns1 dx (fun y => if y = fld then some v else none) := by
  refine ⟨_, _, _, e, rfl, fun d hd => ?_, List.pairwise_singleton _ _, fun y => ?_⟩
  · obtain rfl : d = ⟨hs, .str fld tk, v⟩ := by simpa using hd
    exact ⟨fld, tk, rfl⟩
  · by_cases z : y = fld
    · subst z
      simp [nsFind, findBy, Value.isStr]
    · simp [nsFind, findBy, Value.isStr, z, Ne.symm z]
/-- what __init__ leaves of a fresh error at x -/
structure IniEnd (h h' : Heap) (x C dx : Addr) (fld : Str) (v : Value) : Prop where
  keep : ∀ b o, b ≠ x → h.get? b = some o → h'.get? b = some o
  obj : ∃ t1 : Addr, h'.get? x = some { cls := .ref C, dict := some dx, data := .fields #[.ref t1, .none, .none, .none, .bool false, .none] }
  dbig : h.objs.size ≤ dx
  dne : dx ≠ x
  ns : h'.Ns1 dx (fun y => if y = fld then some v else none)
section
variable {prog : Program} {w : World} {A : Around} {E : Value → Shared → Prop} {R : Result → Shared → Prop} {s : Shared} {K : Frag} {mg : Str → Option Value} {C fI cc : Addr} {nm qual fld : Str} {st : Stmt}
abbrev iniScope (fld : Str) : Scope := { kind := .function, names := [(Str.ofString "self", .local), (fld, .local), (Str.ofString "__class__", .free), (Str.ofString "super", .globalImplicit)], isGenerator := false, isCoroutine := false, more := [] }
abbrev iniBody (fld : Str) (v1 v2 : Expr) (rest : List Expr) (p1 p2 p3 p4 p5 p6 q1 q2 q3 q4 : Pos) : List Stmt :=
  [.Expr (.Call (.Attribute (.Call (.Name "super" p1) [] [] p2) "__init__" p3) [.JoinedStr (v1 :: v2 :: rest) p4] [] p5) p6, .Assign [.Attribute (.Name "self" q1) fld q2] (.Name fld q3) q4]
/-- a field's name that is none of these -/
structure FldOk (fld : Str) : Prop where
  f1 : (fld == Str.ofString "self") = false
  f2 : (Str.ofString "__class__" == fld) = false
  f3 : (Str.ofString "super" == fld) = false
  f4 : (Str.ofString "self" == fld) = false
  f5 : (fld == Str.ofString "__debug__") = false
section
variable {fld : Str}
theorem lk_self : (iniScope fld).names.lookup (Str.ofString "self") = some .local := by
  rw [List.lookup_cons, beq_self_eq_true]
theorem lk_fld (O : FldOk fld) : (iniScope fld).names.lookup fld = some .local := by
  rw [List.lookup_cons, O.f1, List.lookup_cons, beq_self_eq_true]
theorem lk_cls (O : FldOk fld) : (iniScope fld).names.lookup (Str.ofString "__class__") = some .free := by
  rw [List.lookup_cons, show (Str.ofString "__class__" == Str.ofString "self") = false by decide +kernel, List.lookup_cons, O.f2, List.lookup_cons, beq_self_eq_true]
theorem lk_sup (O : FldOk fld) : (iniScope fld).names.lookup (Str.ofString "super") = some .globalImplicit := by
  rw [List.lookup_cons, show (Str.ofString "super" == Str.ofString "self") = false by decide +kernel, List.lookup_cons, O.f3, List.lookup_cons, show (Str.ofString "super" == Str.ofString "__class__") = false by decide +kernel, List.lookup_cons, beq_self_eq_true]
end
theorem err_init {s1 p1 p2 p3 p4 p5 p6 q1 q2 q3 q4 : Pos} {v1 v2 : Expr} {rest : List Expr} (EC : ErrC K mg nm C) {dV : Value} (IC : IniC prog K mg C fI cc qual fld st dV) (O : FldOk fld)
    (hbd : L2.defBody st = iniBody fld v1 v2 rest p1 p2 p3 p4 p5 p6 q1 q2 q3 q4)
    (hpar : ((L2.defArgs st).posonlyargs ++ (L2.defArgs st).args).head? = some { arg := "self", annotation := none, pos := s1 })
    (hps : ∀ e ∈ v1 :: v2 :: rest, FP fld e) (hlen : rest.length ≤ 20) (hpos : (p3.endLine == p5.line) = true) (hsc : L2.defScope st = iniScope fld)
    {x t0 : Addr} {v : Value} (MO : L2.Mod K mg s.heap) (hx : s.heap.get? x = some (excO C t0)) (hnx : K.lookup x = none) (hroom : A.depth < recursionLimit) (fv : FmtOk v)
    (hbind : ∀ kV doc pm an cda ct, BindsTo s (ksFn "__init__" qual (L2.defArgs st) (L2.defBody st) (L2.defScope st) dV kV doc pm an (.ref cda) ct cc) ⟨[.ref x, v], []⟩ [(Str.ofString "self", .ref x), (fld, v)])
    (hq : ∀ h' tk dx, IniEnd s.heap h' x C dx fld v → R (.ok (.ret .none)) { s with heap := h', toks := tk }) :
    codeAny (model prog w) A (.call (.ref fI) ⟨[.ref x, v], []⟩) R s := by
  obtain ⟨oc, od, kV, doc, pm, an, cda, ct, osl, ho, hcd, ccl, cdd, vs, ccs, file, tf, hcda, hvs, hfile⟩ := IC.fn
  have X := MO.kin
  have hb := hbind kV doc pm an cda ct
  rw [hbd, hsc] at ho hb
  obtain ⟨cl, cld, csl, hcell⟩ := IC.cell
  obtain ⟨mb, hmb, hmb2⟩ := MO.blt
  obtain ⟨nm', N', qn, bs, bm, hdct, sn, sub, ab, col, dd, k0, k1, k2, k3, k5, hC, hT⟩ := excInit_of X EC.ei
  obtain ⟨hp, g, d, t, os⟩ := s
  refine ks_codeAny_call_defAt (fd := ksFn "__init__" qual (L2.defArgs st) (iniBody fld v1 v2 rest p1 p2 p3 p4 p5 p6 q1 q2 q3 q4) (iniScope fld) dV kV doc pm an (.ref cda) ct cc) (body := iniBody fld v1 v2 rest p1 p2 p3 p4 p5 p6 q1 q2 q3 q4) (binds := [(Str.ofString "self", .ref x), (fld, v)])
    hroom (X _ _ ho) rfl MO.nolimit (codeRec_of X hcd) rfl hb ?_ ?_ (fun h₁ hns k => ?_)
  · intro y hy z
    have hy' : y ∈ (iniScope fld).names := hy
    simp only [List.mem_cons, List.not_mem_nil, or_false] at hy'
    rcases hy' with rfl | rfl | rfl | rfl <;> cases z
  · intro y hy
    simp only [List.mem_cons, List.not_mem_nil, or_false] at hy
    rcases hy with rfl | rfl
    · exact lk_self
    · exact lk_fld O
  · have X₁ : K.In h₁ := X.keeps k
    have hx₁ := k _ _ hx
    have hC₁ := k _ _ hC
    have mS : (fun y => [(Str.ofString "self", Value.ref x), (fld, v)].reverse.lookup y) (Str.ofString "self") = some (.ref x) := by
      show List.lookup (Str.ofString "self") [(fld, v), (Str.ofString "self", Value.ref x)] = _
      rw [List.lookup_cons, O.f4, List.lookup_cons, beq_self_eq_true]
    have mF : (fun y => [(Str.ofString "self", Value.ref x), (fld, v)].reverse.lookup y) fld = some v := by
      show List.lookup fld [(fld, v), (Str.ofString "self", Value.ref x)] = _
      rw [List.lookup_cons, beq_self_eq_true]
    refine ks_wpAt_execs_cons (ks_wpAt_Expr_any (ks_wpAt_MethodCall (pl := (do return (← importBound (.Call (.Name "super" p1) [] [] p2) (ksEnv qual (iniScope fld) hp.objs.size fI (.ref cda) cc)).getD true)) ?_ ?_))
    rotate_left
    · rw [arm_eval_Call]
      unfold methodCall
      have e2 : ∀ env : Env, methodCallPos (methodCallForm ([Expr.JoinedStr (v1 :: v2 :: rest) p4].length + ([] : List Keyword).length) (backTo p5 (starEach [Expr.JoinedStr (v1 :: v2 :: rest) p4] env)) (backToKw p5 (keywordEach [] env))) (.Call (.Name "super" p1) [] [] p2) env p3 p5 = pure p5 := fun env => by
        show (if (!true || p3.endLine == p5.line) = true then pure p5 else _) = _
        rw [hpos]
        rfl
      rw [e2]
      rfl
    refine ks_wpAt_super_base (f := fI) (cc := cda) (lk_sup O) (lk_cls O) (by decide +kernel) rfl (X₁ _ _ ho) rfl hpar rfl (X₁ _ _ hcda) rfl hvs hfile IC.top ?_
    refine ks_loadName_global rfl (lk_sup O) (loadGlobal_builtin (MO.glob.keeps k) IC.msup (hmb.keeps k) ((hmb2 "super" (by decide)).trans (show bootBuiltins "super" = some (.type "super") by decide +kernel)) ⟨rfl, ?_⟩)
    refine wpAny_loadName_free rfl (lk_cls O) rfl ⟨_, X₁ _ _ hcell, rfl⟩ ?_
    refine wpAny_loadName_local rfl lk_self hns mS ?_
    refine ks_wpAny_isType_cls hC₁ rfl ⟨rfl, ?_⟩
    refine ks_wpAny_call_super hC₁ rfl hx₁ rfl (fun c z => by cases z) (looks_mroIn X₁ IC.slf) (fun h₂ hso k₂ => ?_)
    have X₂ : K.In h₂ := X₁.keeps k₂
    have hx₂ := k₂ _ _ hx₁
    have I₂ : W.InstAt h₂ x (excO C t0) C none := ⟨hx₂, rfl, rfl, trivial⟩
    have hsup := IC.sup
    unfold ks_superIn at hsup
    cases hc : clsIn K C with
    | none =>
      rw [hc] at hsup
      cases hsup
    | some cd =>
    rw [hc] at hsup
    refine kxs_getMethod kxs_ArithmeticError hso (looks_opaque X₂ IC.th) (l₀ := cd.mro) (fun A Q E s k q => wpAny_bind ((looks_clsIn X₂ hc) A _ E s k (wpAny_pure q))) rfl X₂ hsup (I₂.type.andThen (looks_subIn X₂ IC.subA)) (ks_ne X₂ I₂ hc) (by decide +kernel) ?_
    have k₃ : ∀ b o, h₂.get? b = some o → (h₂.push (kxs_mw "ArithmeticError.__init__" x)).get? b = some o := fun b o e => Heap.get?_push_of_some _ e
    have hu : (h₂.push (kxs_mw "ArithmeticError.__init__" x)).get? h₂.objs.size = some (kxs_mw "ArithmeticError.__init__" x) := Heap.get?_push_at rfl rfl
    have kk : ∀ b o, hp.get? b = some o → (h₂.push (kxs_mw "ArithmeticError.__init__" x)).get? b = some o := fun b o e => k₃ _ _ (k₂ _ _ (k _ _ e))
    have hns₃ : (h₂.push (kxs_mw "ArithmeticError.__init__" x)).Ns hp.objs.size (fun y => [(Str.ofString "self", Value.ref x), (fld, v)].reverse.lookup y) := by
      obtain ⟨oL, es, ep, hL, r⟩ := hns
      exact ⟨oL, es, ep, k₃ _ _ (k₂ _ _ hL), r⟩
    have hx₃ := k₃ _ _ hx₂
    have hC₃ := kk _ _ hC
    have hsz : h₂.objs.size < (h₂.push (kxs_mw "ArithmeticError.__init__" x)).objs.size := Heap.lt_size hu
    generalize h₂.push (kxs_mw "ArithmeticError.__init__" x) = h₃ at *
    refine kxs_callWith (i := "ArithmeticError.__init__") (x := x) rfl (evalArgs_plain ?_)
    refine Calls.spliced_cons (wpAny_JoinedStr (pos := p4) (joins_ok (env := callEnv (ksFn "__init__" qual (L2.defArgs st) (iniBody fld v1 v2 rest p1 p2 p3 p4 p5 p6 q1 q2 q3 q4) (iniScope fld) dV kV doc pm an (.ref cda) ct cc) hp.objs.size fI) rfl (lk_fld O) O.f5 mF fv _ Str.empty _ _ hps ?_ hns₃ fun out tk ho => ⟨by rw [sizeLine_eq]; omega, ?_⟩))
    · rw [List.length_cons, List.length_cons]
      show 0 + 1000 * (rest.length + 1 + 1) ≤ 100000
      omega
    refine Calls.spliced_nil ⟨hu, ?_⟩
    -- the library's own rules, over the heap of the call with the error itself left out
    have xL : x ≠ hp.objs.size := Nat.ne_of_lt (Heap.lt_size hx)
    have nK : ∀ a o, K.lookup a = some o → a ∉ [x] := fun a o e z => by
      rw [List.mem_singleton.mp z, hnx] at e
      cases e
    have X₀ : K.In (hideAll hp [x]) := fun a o e => hideAll_get [x] (X a o e) (nK a o e)
    have F₃ : Fr (hideAll hp [x]) hp.objs.size h₃ (fun y => [(Str.ofString "self", Value.ref x), (fld, v)].reverse.lookup y) :=
      ⟨hns₃, fun b o e => kk b o (of_hideAll [x] e), Nat.le_of_eq (hideAll_size [x] hp)⟩
    have L₂ : hp.objs.size < h₂.objs.size := by
      obtain ⟨oL, es, ep, hL, _⟩ := hns
      exact Heap.lt_size (k₂ _ _ hL)
    have ux : h₂.objs.size ≠ x := Nat.ne_of_gt (Nat.lt_trans (Heap.lt_size hx) L₂)
    have uo : (hideAll hp [x]).get? h₂.objs.size = none := by
      cases e : (hideAll hp [x]).get? h₂.objs.size with
      | none => rfl
      | some o => exact absurd (Nat.lt_trans (Heap.lt_size (of_hideAll [x] e)) L₂) (Nat.lt_irrefl _)
    have N₃ : News (hideAll hp [x]) hp.objs.size h₃ [(h₂.objs.size, kxs_mw "ArithmeticError.__init__" x), (x, excObj C t0 none .none)] := fun p hp' => by
      rcases List.mem_cons.mp hp' with rfl | hp'
      · exact ⟨hu, Nat.ne_of_gt L₂, uo⟩
      · obtain rfl := List.mem_singleton.mp hp'
        exact ⟨hx₃, xL, hideAll_none [x] (List.mem_singleton.mpr rfl)⟩
    refine kxs_call F₃ X₀ N₃ F.excBase_ArithmeticError EC.ei List.mem_cons_self (.tail ux (.head fun p z => nomatch z)) (by show 1 ≤ sizeLine; decide) fun t1 h₄ F₄ N₄ lt₄ => ?_
    have X₄ : K.In h₄ := X₀.keeps F₄.keep
    have hx₄ : h₄.get? x = some (excO C t1) := (N₄ (x, excObj C t1 none .none) (by simp)).1
    have tx : t1 ≠ x := Nat.ne_of_gt (lt₄ (x, excObj C t0 none .none) (by simp))
    refine ks_wpAt_execs_cons (ks_wpAt_Assign_Attr (wpAt_of_wpAny (wpAny_Name (wpAny_loadName_local rfl (lk_fld O) F₄.ns mF ?_) O.f5)))
    refine wpAny_Name (wpAny_loadName_local rfl lk_self F₄.ns mS ?_) (by decide +kernel)
    refine set_plain X₄ (ox := excO C t1) (od := none) ⟨hx₄, rfl, rfl, trivial⟩ EC.sa ?_
    have free : takerIn K C fld = some none := by
      rw [takerIn, IC.noF]
      rfl
    refine osa_exc0 (pre := [(t1, _), (h₂.objs.size, _)]) (post := []) F.store_ArithmeticError F₄ N₄ X₄ EC.eo free EC.hdC (fun p z => ?_) (fun p z => nomatch z) (putName_dict _ _ _ _ _ _) rfl (by show 1 ≤ 1000; decide) fun dx h₅ F₅ N₅ lt₅ => ?_
    · rcases List.mem_cons.mp z with rfl | z
      · exact tx
      · obtain rfl := List.mem_singleton.mp z
        exact ux
    refine wpAt_of_wpAny (wpAny_execs_nil ?_)
    have xd : x < dx := lt₅ (x, excObj C t1 none .none) (by simp)
    have ud : h₂.objs.size < dx := lt₅ (h₂.objs.size, kxs_mw "ArithmeticError.__init__" x) (by simp)
    exact hq h₅ _ dx ⟨fun b o hb e => F₅.keep b o (hideAll_get [x] e fun z => hb (List.mem_singleton.mp z)), ⟨t1, (N₅ (x, excObj C t1 (some dx) .none) (by simp)).1⟩, Nat.le_of_lt (Nat.lt_trans L₂ ud), Nat.ne_of_gt xd, one_key (N₅ _ List.mem_cons_self).1⟩
end
end ErrX
end PySem

namespace PySem
namespace ErrX
open PySem.W PySem.Calls PyProof.Rows PySem.HandSPX
/-- a made error with one field -/
structure Made1 (h h' : Heap) (e C d : Addr) (fld : Str) (v : Value) : Prop where
  keep : ∀ b o, h.get? b = some o → h'.get? b = some o
  new : h.objs.size ≤ e
  obj : ∃ oe vs, h'.get? e = some oe ∧ oe.cls = .ref C ∧ oe.dict = some d ∧ oe.data = .fields vs ∧ vs[1]? = some .none
  dbig : h.objs.size ≤ d
  dne : d ≠ e
  ns : h'.Ns1 d (fun y => if y = fld then some v else none)
/-- its __init__ does as it should -/
structure IniOk (prog : Program) (w : World) (K : Frag) (mg : Str → Option Value) (C fI : Addr) (fld : Str) : Prop where
  iC : findIn K (.ref C) "__init__" = some (some (.ref fI))
  tC : typeIn K (.ref fI) = some (.type "function")
  run : ∀ (A : Around) (R : Result → Shared → Prop) (s : Shared) (x t0 : Addr) (v : Value), L2.Mod K mg s.heap → s.heap.get? x = some (excO C t0) → K.lookup x = none → A.depth < recursionLimit → FmtOk v →
    (∀ h' tk dx, IniEnd s.heap h' x C dx fld v → R (.ok (.ret .none)) { s with heap := h', toks := tk }) → codeAny (model prog w) A (.call (.ref fI) ⟨[.ref x, v], []⟩) R s
section
variable {prog : Program} {w : World} {A : Around} {E : Value → Shared → Prop} {R : Result → Shared → Prop} {s : Shared} {K : Frag} {mg : Str → Option Value} {C fI : Addr} {nm fld : Str}
theorem err_made (EC : ErrC K mg nm C) (IO : IniOk prog w K mg C fI fld) {v : Value} (MO : L2.Mod K mg s.heap) (hroom : A.depth + 1 < recursionLimit) (fv : FmtOk v)
    (hq : ∀ h' tk e d, Made1 s.heap h' e C d fld v → R (.ok (.ret (.ref e))) { s with heap := h', toks := tk }) :
    codeAny (model prog w) A (.call (.ref C) ⟨[v], []⟩) R s := by
  have X := MO.kin
  obtain ⟨nm', N', qn, bs, bm, hdct, sn, sub, ab, col, dd, k0, k1, k2, k3, k5, hC, hT⟩ := excInit_of X EC.ei
  obtain ⟨hp, g, dr, tk, os⟩ := s
  have k : ∀ b o, hp.get? b = some o → ((hp.push (kdv_tup [v])).push (excO C hp.objs.size)).get? b = some o := fun b o e => Heap.get?_push_of_some _ (Heap.get?_push_of_some _ e)
  have hget : ((hp.push (kdv_tup [v])).push (excO C hp.objs.size)).get? (hp.objs.size + 1) = some (excO C hp.objs.size) := by heap_get
  have hnx : K.lookup (hp.objs.size + 1) = none := by
    cases e : K.lookup (hp.objs.size + 1) with
    | none => rfl
    | some o =>
      have z : hp.get? (hp.objs.size + 1) = some o := X _ _ e
      exact absurd (Nat.lt_of_succ_lt (Heap.lt_size z)) (Nat.lt_irrefl _)
  have MO' : L2.Mod K mg ((hp.push (kdv_tup [v])).push (excO C hp.objs.size)) := by
    obtain ⟨mb, h1, h2⟩ := MO.blt
    exact ⟨X.keeps k, MO.glob.keeps k, ⟨mb, h1.keeps k, h2⟩, MO.nolimit.keeps k⟩
  refine call_own F.excBase_ArithmeticError hT hC (looks_findIn X IO.iC) (fun self => bind_fn X self IO.tC) (by show 1 ≤ sizeLine; decide) ?_
  refine IO.run _ _ ⟨(hp.push (kdv_tup [v])).push (excO C hp.objs.size), g, dr, tk, os⟩ _ _ _ MO' hget hnx ?_ fv fun h' tk' dx ⟨k', ⟨t1, hx⟩, dn, dne, hns⟩ => ?_
  · show A.depth + 1 < recursionLimit
    exact hroom
  · have old : ∀ b o, hp.get? b = some o → h'.get? b = some o := fun b o e => k' b o (Nat.ne_of_lt (Nat.lt_succ_of_lt (Heap.lt_size e))) (k b o e)
    have z : hp.objs.size + 1 + 1 ≤ dx := by
      first
        | (simpa only [Heap.size_push] using dn)
        | exact dn
        | (have q := dn; rw [Heap.size_push, Heap.size_push] at q; exact q)
    exact ⟨rfl, hq h' tk' (hp.objs.size + 1) dx ⟨old, Nat.le_succ _, ⟨_, _, hx, rfl, rfl, rfl, rfl⟩, Nat.le_trans (Nat.le_trans (Nat.le_succ _) (Nat.le_succ _)) z, dne, hns⟩⟩
end
end ErrX
end PySem
namespace E1
open PySem PySem.Spec PyProof.Rows L2
open PySem.ErrX (ErrC IniOk FmtOk)
/-- a value that is written as a text of at most a thousand signs -/
def VFmt (v : V) : Prop := (∃ y : Str, v = .str y ∧ y.length ≤ 1000) ∨ ∃ i : Int, v = .int i ∧ i.natAbs.log2 < 1920 ∧ (toString i : String).length ≤ 1000
theorem VFmt.ok {v : V} {u : Value} (h : VFmt v) (r : RelV v u) : FmtOk u := by
  rcases h with ⟨y, rfl, hy⟩ | ⟨i, rfl, hi, hy⟩
  · obtain ⟨t, rfl⟩ := (show ∃ t, u = Value.str y t from r)
    exact .inl ⟨y, t, rfl, hy⟩
  · obtain ⟨t, rfl⟩ := (show ∃ t, u = Value.int i t from r)
    exact .inr ⟨i, t, rfl, hi, hy⟩
theorem relO_one {fld : Str} {v : V} {v' : Value} (r : RelV v v') (f : Str) : RelO (List.lookup f [(fld, v)]) (if f = fld then some v' else none) := by
  by_cases hw : f = fld
  · subst hw
    rw [if_pos rfl]
    have q : List.lookup f [(f, v)] = some v := by simp [List.lookup]
    rw [q]
    exact r
  · rw [if_neg hw]
    have qw : (f == fld) = false := by simpa using hw
    have q2 : List.lookup f [(fld, v)] = none := by simp [List.lookup, qw]
    rw [q2]
    trivial
section
variable {X : Cx} {C fI : Addr} {x fld : Str}
/-- X(e), an error with one field -/
def tMkErr (C : Addr) (fld : Str) (ta : TA) : L2.St → Hp → XK → Prop := fun σ H Q => ta σ H fun vs H1 => ∃ v, vs = [v] ∧ VFmt v ∧ ∀ d, H1 d = none → Q (.ref C) (some d) (upd H1 d (.xd [(fld, v)]))
theorem pmk_err {a : Expr} {ta : TA} {p pos : Pos} {k : Nat} (EC : ErrC X.K X.mg x C) (IO : IniOk X.prog X.w X.K X.mg C fI fld) (hr : Room k X.A) (ha : PA X [a] ta) (hg : Gl X x := by rfl) (hdb : (x == ("__debug__" : Str)) = false := by decide)
    (he : starEach (a :: []) X.env = (false, eval a X.env) :: starEach [] X.env := by rfl) (hpl : (backTo pos (starEach [] X.env)).any (·.1) = false := by rfl) :
    PMk X (.Call (.Name x p) [a] [] pos) (tMkErr C fld ta) := by
  intro pins s σ H Q I h
  refine wpAny_Call_Name_kw (ld_glob I hg EC.gC ?_ hdb)
  refine PySem.W.callWith_K (h₀ := X.base) I.ok.mod.kin EC.kC (thn (ha.run pos pins s σ H _ I h) fun us s1 hh => ?_) he hpl
  obtain ⟨vs, H1, I1, r1, v, ev, fv, q1⟩ := hh
  subst ev
  refine ⟨I1.kIn, ?_⟩
  cases r1 with
  | cons rv rn =>
    rename_i v' us'
    cases rn
    show wpAny _ _ (call (.ref C) [v']) _ _ _
    have MO : Mod X.K X.mg s1.heap := by
      obtain ⟨mb, h1, h2⟩ := I1.mod.blt
      exact ⟨I1.kIn, I1.mod.glob.keeps I1.bk, ⟨mb, h1.keeps I1.bk, h2⟩, I1.nolimit⟩
    obtain ⟨hp, g, dr, tk, os⟩ := s1
    refine wpAny_call (PySem.ErrX.err_made EC IO MO (by have := hr.dp; omega) (fv.ok rv) fun h' tk' e d M => ?_)
    show MkP X pins σ Q (.ref e) ⟨h', g, dr, tk', os⟩
    obtain ⟨oe, fv', hoe, hc, hd, hdat, h1⟩ := M.obj
    have hns := M.ns
    obtain ⟨G', g1, g2⟩ := restrict h' fun b => decide (b ≠ e)
    have gk : ∀ b, b ≠ e → G'.get? b = h'.get? b := fun b hb => g1 b (decide_eq_true hb)
    have ge : G'.get? e = none := g2 e (by simp)
    have old : ∀ b o, hp.get? b = some o → G'.get? b = some o := fun b o q => (gk b (Nat.ne_of_lt (Nat.lt_of_lt_of_le (Heap.lt_size q) M.new))).trans (M.keep b o q)
    have ob : ObjOk X.prog X.w (upd H1 d (.xd [(fld, v)])) G' d (.xd [(fld, v)]) :=
      ⟨_, hns.at (fun o q => (gk d M.dne).trans q), fun f => relO_one rv f⟩
    have J : Inv X pins σ (upd H1 d (.xd [(fld, v)])) ⟨G', g, dr, tk', os⟩ := I1.laid (t' := tk') old M.dbig ob
    refine ⟨e, oe, fv', ⟨G', g, dr, tk', os⟩, _, .ref C, some d, rfl, J, fun b o q => ?_, ge, hoe, ⟨hc, hd⟩, hdat, h1, ?_, rfl, I1.bare, raises_own EC.exC EC.tyC, q1 d (I1.hok.fresh M.dbig)⟩
    · by_cases hb : b = e
      · have q' : G'.get? b = some o := q
        rw [hb, ge] at q'; cases q'
      · exact (gk b hb).symm.trans q
    · rw [upd_ne (Ne.symm M.dne)]
      exact I1.hok.fresh M.new
/-- raise X(e) -/
def tRaiseErr (C : Addr) (fld : Str) (W : WX) (ta : TA) : TS := fun _ σ H => tMkErr C fld ta σ H fun cls d H' => W cls d σ H'
theorem ps_raiseErr {a : Expr} {ta : TA} {W : WX} {p pos pos2 : Pos} {k : Nat} (hc : X.calm = true) (EC : ErrC X.K X.mg x C) (IO : IniOk X.prog X.w X.K X.mg C fI fld) (hr : Room k X.A) (tk : Takes X W) (ha : PA X [a] ta) (hg : Gl X x := by rfl) (hdb : (x == ("__debug__" : Str)) = false := by decide)
    (he : starEach (a :: []) X.env = (false, eval a X.env) :: starEach [] X.env := by rfl) (hpl : (backTo pos (starEach [] X.env)).any (·.1) = false := by rfl) :
    PS X (.Raise (some (.Call (.Name x p) [a] [] pos)) none pos2) (tRaiseErr C fld W ta) := ps_raise hc tk (pmk_err EC IO hr ha hg hdb he hpl)
/-- e.f of a caught error -/
theorem ErrC.xf {K : PySem.W.Frag} {mg : Str → Option Value} (EC : ErrC K mg x C) : XfC K C := ⟨EC.ga, EC.gg, EC.exC, EC.hdC⟩
end
end E1

namespace E1
open PySem PySem.Spec PyProof.Rows L2
open PySem.ErrX (ErrC IniOk FmtOk)
/-- isinstance(e, c), e the error that the suite holds, its class an own one -/
def rIsX (K : PySem.W.Frag) (a : Addr) (cls : Value) (d : Option Addr) : List V → Hp → VK → Prop := fun xs H Q => ∃ (D : Addr) (c : V) (cv : Value) (b : Bool), cls = .ref D ∧ ExcC K D ∧ xs = [.ref a, c] ∧ (∀ u, RelV c u → u = cv) ∧
  (∀ dd, d = some dd → ∃ fs, H dd = some (.xd fs)) ∧ PySem.W.kitOne K (.ref D) cv = some b ∧ Q (.bl b) H
theorem call_isX {X : Cx} {a : Addr} {cls : Value} {d : Option Addr} {oe : Obj} {pn : List (Addr × Obj)} (hz : Zc cls d oe) (hf : ∃ vs, oe.data = .fields vs) : CallR (X.suite a ((a, oe) :: pn)) (.builtin "isinstance") (rIsX X.K a cls d) := by
  intro pins s σ H xs us Q I r ⟨D, c, cv, b, hcls, C, hxs, only, hdd, yes, q⟩
  subst hcls hxs
  match d, hz, hdd, us, r with
  | none, hz, _, us, r => exact call_isE C hz hf pins s σ H _ us Q I r ⟨c, cv, b, rfl, only, yes, q⟩
  | some dd, ⟨kind, own⟩, hdd, [x, u], .cons hx (.cons hu .nil) =>
    cases hx
    cases only u hu
    obtain ⟨fs, tracked⟩ := hdd dd rfl
    obtain ⟨m, space, _⟩ := show ObjOk X.prog X.w H s.heap dd (.xd fs) from I.hok dd _ tracked
    obtain ⟨dict, lies, _⟩ := lookIn_ns space
    obtain ⟨parts, hparts⟩ := hf
    have held := (I.pin (a, oe) (by simp)).1
    have inst : PySem.W.InstAt s.heap a oe D (some dict) := by
      refine ⟨held, kind, ?_, ?_⟩
      · obtain ⟨_, _, dat, _⟩ := oe
        dsimp only at hparts ⊢
        rw [hparts]
        rfl
      · simpa [own] using lies
    have known : (PySem.W.clsIn X.K D).isSome = true := Option.isSome_iff_exists.mpr ((PySem.W.any_some C.hd).imp fun _ z => z.1)
    exact PySem.W.kia_one (PySem.W.kitx_exc known C.hg C.hk C.hs C.ha C.hn C.ht C.hm) I.kIn inst yes (fun z => nomatch z) fun tk => ⟨.bl b, H, I.kept (t' := tk) fun _ _ z => z, rfl, q⟩
/-! ### calls of defs that may raise -/
def CalX (P : Program) (w : World) (K : PySem.W.Frag) (mg : Str → Option Value) (base : Heap) (k : Nat) (x : Str) (ps : List Str) (dvs : List V) (sp : Sp) : Prop :=
  ∃ (f : Addr) (fd : FuncData) (ds : List Value), mg x = some (.ref f) ∧ PySem.W.keepIn K (.ref f) = true ∧ Vals dvs ds ∧ Binds K fd ps ds ∧ FnOk P w K mg base (L2.CX P w) k f fd ps sp
theorem pe_calx {X : Cx} {k j : Nat} {x : Str} {ps : List Str} {dvs : List V} {sp : Sp} {e : Expr} {es : List Expr} {t : TA} {p pos : Pos} (c : CalX X.prog X.w X.K X.mg X.base k x ps dvs sp) (hr : Room j X.A) (ha : PA X (e :: es) t) (hle : k ≤ j := by decide) (hg : Gl X x := by rfl)
    (hdb : (x == ("__debug__" : Str)) = false := by decide) (he : starEach (e :: es) X.env = (false, eval e X.env) :: starEach es X.env := by rfl) (hpl : (backTo pos (starEach es X.env)).any (·.1) = false := by rfl) :
    PE X (.Call (.Name x p) (e :: es) [] pos) (tCall sp dvs E0 t) := by
  obtain ⟨f, fd, ds, h1, h2, hd, h3, h4⟩ := c
  exact pe_call h4 (hr.mono hle) hg h1 h2 h3 hd passL ha hdb he hpl
def CalXK (P : Program) (w : World) (K : PySem.W.Frag) (mg : Str → Option Value) (base : Heap) (k : Nat) (x : Str) (ps : List Str) (n : Nat) (ks : List Str) (gV : List V → List V → List V) (sp : Sp) : Prop :=
  ∃ (f : Addr) (fd : FuncData) (g : List Value → List Value → List Value), mg x = some (.ref f) ∧ PySem.W.keepIn K (.ref f) = true ∧ KBn K fd ps n ks g gV ∧ FnOk P w K mg base (L2.CX P w) k f fd ps sp
theorem pe_calkx0 {X : Cx} {k j : Nat} {x : Str} {ps ks : List Str} {gV : List V → List V → List V} {sp : Sp} {kws : List Keyword} {tk : TA} {p pos : Pos} (c : CalXK X.prog X.w X.K X.mg X.base k x ps 0 ks gV sp) (hr : Room j X.A)
    (hkw : PK X kws tk) (hle : k ≤ j := by decide) (hg : Gl X x := by rfl) (hall : (backToKw pos (keywordEach kws X.env)).all (·.1.isSome) = true := by rfl) (hks : (backToKw pos (keywordEach kws X.env)).filterMap (·.1) = ks := by rfl)
    (hdb : (x == ("__debug__" : Str)) = false := by decide)
    (hpl : ((backTo pos (starEach [] X.env)).any (·.1) || (backToKw pos (keywordEach kws X.env)).any (·.1.isNone)) = false := by rfl) :
    PE X (.Call (.Name x p) [] kws pos) (tCallN 0 ks.length sp gV E0 tNil tk) := by
  obtain ⟨f, fd, g, h1, h2, h3, h4⟩ := c
  refine ⟨fun pins s σ H Q I h => ?_⟩
  refine wpAny_Call_Name_kw (ld_glob I hg h1 ?_ hdb)
  refine PySem.W.callWith_KW0 (h₀ := X.base) I.ok.mod.kin h2 hall (thn (hkw.run pos pins s σ H _ I h) fun ws s2 ⟨zs, H2, I2, rz, l1, l2, q2⟩ => ⟨I2.kIn, ?_⟩) hpl
  rw [hks]
  exact run_fnN (vs := []) (us := []) h4 (hr.mono hle) h3 passL I2 .nil rz l1 l2 q2
/-- a call whose error a try around it waits for -/
theorem pe_calxS {X : Cx} {k j : Nat} {x : Str} {ps : List Str} {sp : Sp} {e : Expr} {es : List Expr} {t : TA} {p pos : Pos} {W : WX} (c : CalX X.prog X.w X.K X.mg X.base k x ps [] sp) (hr : Room j X.A) (tk : Takes X W) (ha : PA X (e :: es) t) (hle : k ≤ j := by decide) (hg : Gl X x := by rfl)
    (hdb : (x == ("__debug__" : Str)) = false := by decide) (he : starEach (e :: es) X.env = (false, eval e X.env) :: starEach es X.env := by rfl) (hpl : (backTo pos (starEach es X.env)).any (·.1) = false := by rfl) :
    PE X (.Call (.Name x p) (e :: es) [] pos) (tCallS sp (WE W) t) := by
  obtain ⟨f, fd, ds, h1, h2, hd, h3, h4⟩ := c
  cases hd
  exact pe_callS h4 (hr.mono hle) hg h1 h2 h3 (fun σ => passAt tk σ) ha hdb he hpl
end E1

namespace E1
open PySem PySem.Spec PyProof.Rows L2
/-! ### a def of the text that is called by its name -/
def Cal (P : Program) (w : World) (K : PySem.W.Frag) (mg : Str → Option Value) (base : Heap) (k : Nat) (x : Str) (ps : List Str) (sp : Sp) : Prop :=
  ∃ (f : Addr) (fd : FuncData), mg x = some (.ref f) ∧ PySem.W.keepIn K (.ref f) = true ∧ Binds K fd ps [] ∧ FnOk P w K mg base CX0 k f fd ps sp
theorem pe_cal {X : Cx} {k j : Nat} {x : Str} {ps : List Str} {sp : Sp} {e : Expr} {es : List Expr} {t : TA} {p pos : Pos} (c : Cal X.prog X.w X.K X.mg X.base k x ps sp) (hr : Room j X.A) (ha : PA X (e :: es) t) (hle : k ≤ j := by decide) (hg : Gl X x := by rfl)
    (hdb : (x == ("__debug__" : Str)) = false := by decide) (he : starEach (e :: es) X.env = (false, eval e X.env) :: starEach es X.env := by rfl) (hpl : (backTo pos (starEach es X.env)).any (·.1) = false := by rfl) :
    PE X (.Call (.Name x p) (e :: es) [] pos) (tCall sp [] E0 t) := by
  obtain ⟨f, fd, h1, h2, h3, h4⟩ := c
  exact pe_call h4 (hr.mono hle) hg h1 h2 h3 .nil pass0 ha hdb he hpl
/-! ### heaps -/
def SameBut (a : Addr) (H H' : Hp) : Prop := ∀ b o, b ≠ a → H b = some o → H' b = some o
theorem SameBut.refl (a : Addr) (H : Hp) : SameBut a H H := fun _ _ _ h => h
theorem SameBut.trans {a : Addr} {H H1 H2 : Hp} (x : SameBut a H H1) (y : SameBut a H1 H2) : SameBut a H H2 := fun b o n h => y b o n (x b o n h)
theorem SameBut.of {a : Addr} {H H' : Hp} (s : Same H H') : SameBut a H H' := fun b o _ h => s b o h
theorem SameBut.upd {a : Addr} {H : Hp} {o : HO} : SameBut a H (upd H a o) := fun b _ n h => by
  rw [upd_ne n]
  exact h
theorem same_new {H : Hp} {p : Addr} {o : HO} (h : H p = none) : Same H (upd H p o) := fun b x e => by
  rw [upd_ne (ne_of_none e h)]
  exact e
theorem Same.tup {K : PySem.W.Frag} {H H' : Hp} {a : Addr} {xs : List V} (e : Same H H') (h : SqT K H a xs) : SqT K H' a xs := by
  rcases h with (h | ⟨o, h⟩) | h
  · exact .inl (.inl (e _ _ h))
  · exact .inl (.inr ⟨o, e _ _ h⟩)
  · exact .inr h
theorem a0 {α : Type} {x : α} {l : List α} : atI (x :: l) 0 = some x := atI_nat (j := 0) rfl
theorem a1 {α : Type} {x y : α} {l : List α} : atI (x :: y :: l) 1 = some y := atI_nat (j := 1) rfl
theorem a2 {α : Type} {x y z : α} {l : List α} : atI (x :: y :: z :: l) 2 = some z := atI_nat (j := 2) rfl
theorem toB {p : Prop} [Decidable p] (h : decide p = true) : p := of_decide_eq_true h
theorem toNB {p : Prop} [Decidable p] (h : ¬ decide p = true) : ¬ p := fun z => h (decide_eq_true z)
/-- a well: the digits left, a number that is mixed, how many were mixed (at most c) -/
def WellAt (H : Hp) (a : Addr) (c : Int) : Prop := ∃ x y z : Int, H a = some (.lst [.int x, .int y, .int z]) ∧ 0 ≤ y ∧ y < 2147483647 ∧ 0 ≤ z ∧ z ≤ c
theorem WellAt.mono {H : Hp} {a : Addr} {c d : Int} (h : WellAt H a c) (l : c ≤ d) : WellAt H a d := by
  obtain ⟨x, y, z, e, h1, h2, h3, h4⟩ := h
  exact ⟨x, y, z, e, h1, h2, h3, by omega⟩
theorem WellAt.same {H H' : Hp} {a : Addr} {c : Int} (h : WellAt H a c) (s : Same H H') : WellAt H' a c := by
  obtain ⟨x, y, z, e, h1, h2, h3, h4⟩ := h
  exact ⟨x, y, z, s _ _ e, h1, h2, h3, h4⟩
theorem WellAt.but {H H' : Hp} {a b : Addr} {c : Int} (h : WellAt H a c) (s : SameBut b H H') (n : a ≠ b) : WellAt H' a c := by
  obtain ⟨x, y, z, e, h1, h2, h3, h4⟩ := h
  exact ⟨x, y, z, s _ _ n e, h1, h2, h3, h4⟩
/-! ### promises of the law's helpers -/
def spCell (K : PySem.W.Frag) : Sp := fun vs H Q _ => ∃ (a : Addr) (ns : List Int) (k : Nat), vs = [.ref a, .int k] ∧ SqL K H a (ns.map V.int) ∧ Q (.int (ns.getD k 0)) H
def spWell : Sp := fun vs H Q _ => ∃ c : Int, vs = [.int c] ∧ ∀ p : Addr, H p = none → ∀ H', Same H H' → WellAt H' p 0 → Q (.ref p) H'
/-- a number from 0 to below m; the well has at most one more -/
def spDraw : Sp := fun vs H Q _ => ∃ (a : Addr) (c m : Int), vs = [.ref a, .int m] ∧ WellAt H a c ∧ c ≤ 1000000000 ∧ 0 < m ∧ m.natAbs < 2 ^ 9000 ∧
  ∀ (r : Int) (H' : Hp), 0 ≤ r → r < m → SameBut a H H' → (∀ b, H b = none → H' b = none) → WellAt H' a (c + 1) → Q (.int r) H'
def topS (i : Nat) : Stmt := PySem.Challenge.pw_echobound_k30_turns_refused.main.body.getD i (.Pass ⟨0, 0, 0, 0⟩)
abbrev s__wall : Stmt := topS 0
abbrev s_is_whole : Stmt := topS 11
abbrev s_shared_divisor : Stmt := topS 12
abbrev s_lowest : Stmt := topS 13
abbrev s_times : Stmt := topS 14
abbrev s_divided : Stmt := topS 15
abbrev s_two_to : Stmt := topS 16
abbrev s_downward : Stmt := topS 18
abbrev s_upward : Stmt := topS 19
abbrev s_inward : Stmt := topS 20
abbrev s_outward : Stmt := topS 21
abbrev s_nearest_greater : Stmt := topS 22
abbrev s_nearest_even : Stmt := topS 23
abbrev s_nearest_far : Stmt := topS 24
abbrev s_is_manner : Stmt := topS 26
abbrev s_rounded : Stmt := topS 27
abbrev s_is_width : Stmt := topS 33
abbrev s_is_point : Stmt := topS 34
abbrev s_is_ends : Stmt := topS 35
abbrev s_is_place : Stmt := topS 45
abbrev s_is_factor : Stmt := topS 46
abbrev s_in_point : Stmt := topS 47
abbrev s_old_point : Stmt := topS 48
abbrev s_times_point : Stmt := topS 49
abbrev s_sum_point : Stmt := topS 50
abbrev s_move_point : Stmt := topS 51
abbrev s_keep_point : Stmt := topS 52
abbrev s_is_written_as_row : Stmt := topS 54
abbrev s_row_point : Stmt := topS 55
abbrev s_check_length : Stmt := topS 56
abbrev s_check_forms : Stmt := topS 57
abbrev s_is_hold : Stmt := topS 58
abbrev s_check_holds : Stmt := topS 59
abbrev s_checked_points : Stmt := topS 60
abbrev s_check_links : Stmt := topS 61
abbrev s_enter_form : Stmt := topS 63
abbrev s_swept : Stmt := topS 64
abbrev s_is_state : Stmt := topS 66
abbrev s_check_state : Stmt := topS 67
abbrev s_check_word : Stmt := topS 68
abbrev s_check_run : Stmt := topS 69
abbrev s_first_state : Stmt := topS 70
abbrev s_sum_number : Stmt := topS 71
abbrev s_number_of_row : Stmt := topS 72
abbrev s_state_behind : Stmt := topS 73
abbrev s_turn_of : Stmt := topS 74
abbrev s_went_over : Stmt := topS 75
abbrev s_turned : Stmt := topS 76
abbrev s_overs : Stmt := topS 77
abbrev s_run : Stmt := topS 79
abbrev s__law_cell_at : Stmt := topS 82
abbrev s__law_well : Stmt := topS 83
abbrev s__law_draw : Stmt := topS 84
abbrev s__law_form : Stmt := topS 85
abbrev s__law_word : Stmt := topS 86
abbrev s__law_row : Stmt := topS 87
abbrev s__law_begin : Stmt := topS 88
abbrev s__law_mixed : Stmt := topS 89
abbrev s__law_link : Stmt := topS 90
abbrev s__law_net : Stmt := topS 91
abbrev s__law_made : Stmt := topS 92
abbrev s__law_bad_word : Stmt := topS 93
abbrev s__law_bad_state : Stmt := topS 94
abbrev s__law_said : Stmt := topS 95
abbrev s__law_machine_right : Stmt := topS 96
abbrev s_law : Stmt := topS 97
abbrev s_overs_machines : Stmt := topS 77
section
variable {P : Program} {w : World} {K : PySem.W.Frag} {mg : Str → Option Value} {base : Heap}
theorem sc__law_cell_at : FnScope ["_law_script", "_law_k"] ["_law_script", "_law_k"] (defScope s__law_cell_at) := ⟨rfl, rfl, rfl, by decide +kernel, rfl, by decide +kernel, by decide +kernel⟩
theorem sc__law_well : FnScope ["_law_cell"] ["_law_cell"] (defScope s__law_well) := ⟨rfl, rfl, rfl, by decide +kernel, rfl, by decide +kernel, by decide +kernel⟩
theorem sc__law_draw : FnScope ["_law_well_here", "_law_many", "_law_found", "_law_number"] ["_law_well_here", "_law_many"] (defScope s__law_draw) := ⟨rfl, rfl, rfl, by decide +kernel, rfl, by decide +kernel, by decide +kernel⟩
theorem ok_cell {f : Addr} {fd : FuncData} {k : Nat} (F : Fun K "_law_cell_at" "_law_cell_at" s__law_cell_at f fd) (zl : mg "len" = none) : FnOk P w K mg base CX0 (k + 1) f fd ["_law_script", "_law_k"] (spCell K) := by
  refine F.ok sc__law_cell_at (fun vs H Q E h => ?_) (fun cdv A outer s H vs Q E hr h => ?_)
  · obtain ⟨a, ns, k, rfl, _⟩ := h
    rfl
  · obtain ⟨a, ns, k, rfl, hS, q⟩ := h
    refine ⟨_, (pss_cons (ps_if (pt_cmpR op_lt (pv 1) (pe_callB call_len_seq (by rfl) zl PySem.boot_len (pa_cons (pv 0) pa_nil)) (nomark _)) (pss_one (ps_ret (pe_ix ix_list (pv 0) (pv 1) (fun _ _ => rfl)))) pss_nil)
      (pss_one (ps_ret pe_int))), ?_⟩
    refine ⟨_, rfl, _, rfl, a, _, rfl, .inl hS, _, _, rfl, rfl, _, rfl, ite2 (fun c => ?_) (fun c => ?_)⟩
    · have hk : k < ns.length := by
        have := toB c
        rw [List.length_map] at this
        omega
      refine ⟨_, rfl, _, rfl, a, _, k, .int (ns.getD k 0), rfl, rfl, hS, atI_nat ?_, q⟩
      rw [List.getElem?_map, List.getElem?_eq_getElem hk, List.getD_eq_getElem?_getD, List.getElem?_eq_getElem hk]
      rfl
    · have hk : ¬ k < ns.length := fun z => by
        have := toNB c
        rw [List.length_map] at this
        omega
      have e : ns.getD k 0 = 0 := by
        rw [List.getD_eq_getElem?_getD, List.getElem?_eq_none (by omega)]
        rfl
      rw [e] at q
      exact q
theorem ok_well {f : Addr} {fd : FuncData} {k : Nat} (F : Fun K "_law_well" "_law_well" s__law_well f fd) (zi : mg "int" = none) : FnOk P w K mg base CX0 (k + 1) f fd ["_law_cell"] spWell := by
  refine F.ok sc__law_well (fun vs H Q E h => ?_) (fun cdv A outer s H vs Q E hr h => ?_)
  · obtain ⟨c, rfl, _⟩ := h
    rfl
  · obtain ⟨c, rfl, q⟩ := h
    refine ⟨_, (pss_one (ps_ret (pe_lst (pa_cons (pe_op op_mul (pv 0) (pe_callTy call_int1 (by rfl) zi (by decide +kernel) (pa_cons (pe_cmpR op_ge (pv 0) (pe_op op_pow pe_int pe_int) (nomark _)) pa_nil))) (pa_cons (pe_op op_mod (pv 0) pe_int) (pa_cons pe_int pa_nil)))))), ?_⟩
    refine ⟨_, rfl, _, rfl, _, _, rfl, rfl, ⟨by decide, by decide, by decide⟩, _, _, rfl, rfl, .inr ⟨_, rfl, _, _, rfl, rfl, .inr ?_, ?_⟩⟩
    · split <;> decide
    · refine ⟨_, rfl, _, _, rfl, rfl, (by show (0 : Int) < 2147483647; decide), (by show 3 ≤ sizeLine; decide), fun p hp => ?_⟩
      exact q p hp _ (same_new hp) ⟨_, _, _, upd_same, Int.emod_nonneg _ (by decide), Int.emod_lt_of_pos _ (by decide), Int.le_refl _, Int.le_refl _⟩
theorem ok_draw {f : Addr} {fd : FuncData} {k : Nat} (F : Fun K "_law_draw" "_law_draw" s__law_draw f fd) : FnOk P w K mg base CX0 (k + 1) f fd ["_law_well_here", "_law_many"] spDraw := by
  refine F.ok sc__law_draw (fun vs H Q E h => ?_) (fun cdv A outer s H vs Q E hr h => ?_)
  · obtain ⟨a, c, m, rfl, _⟩ := h
    rfl
  · obtain ⟨a, c, m, rfl, ⟨x, y, z, hw, y0, y1, z0, z1⟩, hc, m0, m1, q⟩ := h
    have fr : ∀ o b, H b = none → (upd H a o) b = none := fun o b hb => by
      rw [upd_ne (fun e => by rw [e, hw] at hb; cases hb)]
      exact hb
    refine ⟨_, (pss_cons (ps_if (pt_cmpR op_gt (pe_ix ix_list (pv 0) pe_int (fun _ _ => rfl)) pe_int (nomark _)) (pss_cons (ps_set (i := 2) sc__law_draw.nd rfl (.inl rfl) (pe_op op_mod (pe_ix ix_list (pv 0) pe_int (fun _ _ => rfl)) (pv 1)))
      (pss_cons (ps_asg (pe_op op_fdivW (pe_ix ix_list (pv 0) pe_int (fun _ _ => rfl)) (pv 1)) (pg_sub (pv 0) pe_int set_list))
      (pss_one (ps_ret (pv 2))))) pss_nil)
      (pss_cons (ps_asg (pe_op op_add (pe_ix ix_list (pv 0) pe_int (fun _ _ => rfl)) pe_int) (pg_sub (pv 0) pe_int set_list))
      (pss_cons (ps_set (i := 3) sc__law_draw.nd rfl (.inl rfl) (pe_op op_mod (pe_op op_pow (pe_op op_add (pe_op op_add (pe_ix ix_list (pv 0) pe_int (fun _ _ => rfl)) (pe_op op_mul pe_int (pe_ix ix_list (pv 0) pe_int (fun _ _ => rfl)))) pe_int) pe_int) pe_int))
      (pss_cons (ps_set (i := 3) sc__law_draw.nd rfl (.inl rfl) (pe_op op_mod (pe_op op_mul (pv 3) (pe_op op_add (pe_op op_fdiv (pv 3) pe_int) pe_int)) pe_int))
      (pss_one (ps_ret (pe_op op_mod (pe_op op_mod (pe_op op_mul (pv 3) (pe_op op_add (pe_op op_fdiv (pv 3) pe_int) pe_int)) pe_int) (pv 1)))))))), ?_⟩
    refine ⟨_, rfl, a, _, 0, .int x, rfl, rfl, SqL.of hw, a0, x, 0, rfl, rfl, _, rfl, ite2 (fun c => ?_) (fun c => ?_)⟩
    · refine ⟨_, rfl, a, _, 0, .int x, rfl, rfl, SqL.of hw, a0, _, rfl, x, m, rfl, rfl, m0, ?_⟩
      refine ⟨_, rfl, a, _, 0, .int x, rfl, rfl, SqL.of hw, a0, _, rfl, x, m, rfl, rfl, wide_div m0 m1 (by decide) (Nat.le_refl _), _, rfl, a, _, 0, 0, rfl, rfl, hw, rfl, ?_⟩
      refine ⟨_, rfl, q _ _ (Int.emod_nonneg _ (by omega)) (Int.emod_lt_of_pos _ m0) SameBut.upd (fr _) ⟨_, _, _, upd_same, y0, y1, z0, by omega⟩⟩
    · refine ⟨_, rfl, a, _, 2, .int z, rfl, rfl, SqL.of hw, a2, z, 1, rfl, rfl, _, rfl, a, _, 2, 2, rfl, rfl, hw, rfl, ?_⟩
      have hw2 : (upd H a (.lst [V.int x, V.int y, V.int (z + 1)])) a = some (.lst [V.int x, V.int y, V.int (z + 1)]) := upd_same
      have n5 : 0 ≤ y + 7919 * (z + 1) + 1 ∧ y + 7919 * (z + 1) + 1 < 18446744073709551616 := by omega
      refine ⟨_, rfl, a, _, 1, .int y, rfl, rfl, SqL.of hw2, a1, _, rfl, a, _, 2, .int (z + 1), rfl, rfl, SqL.of hw2, a2, _, _, rfl, rfl, .inl ⟨by decide, by decide⟩, _, _, rfl, rfl, _, _, rfl, rfl, _, _, rfl, rfl, ⟨by decide, by decide, ?_⟩, _, _, rfl, rfl, (by show (0 : Int) < 2147483647; decide), ?_⟩
      · show (y + 7919 * (z + 1) + 1).natAbs < 18446744073709551616
        omega
      · generalize hn : (y + 7919 * (z + 1) + 1) ^ (5 : Int).toNat % 2147483647 = n
        have n0 : 0 ≤ n := by rw [← hn]; exact Int.emod_nonneg _ (by decide)
        have n1 : n < 2147483647 := by rw [← hn]; exact Int.emod_lt_of_pos _ (by decide)
        refine ⟨_, rfl, _, rfl, _, _, rfl, rfl, ⟨by decide, by decide⟩, _, _, rfl, rfl, _, _, rfl, rfl, .inl ⟨by omega, by omega⟩, _, _, rfl, rfl, (by show (0 : Int) < 2147483629; decide), ?_⟩
        generalize hm : n * (n / 1009 + 69621) % 2147483629 = u
        have u0 : 0 ≤ u := by rw [← hm]; exact Int.emod_nonneg _ (by decide)
        have u1 : u < 2147483629 := by rw [← hm]; exact Int.emod_lt_of_pos _ (by decide)
        refine ⟨_, rfl, _, rfl, _, _, rfl, rfl, ⟨by decide, by decide⟩, _, _, rfl, rfl, _, _, rfl, rfl, .inl ⟨by omega, by omega⟩, _, _, rfl, rfl, (by show (0 : Int) < 2147483587; decide), _, rfl, _, _, rfl, rfl, m0, ?_⟩
        exact q _ _ (Int.emod_nonneg _ (by omega)) (Int.emod_lt_of_pos _ m0) SameBut.upd (fr _) ⟨_, _, _, upd_same, y0, y1, by omega, by omega⟩
end
end E1

namespace E1
open PySem PySem.Spec PyProof.Rows L2

def CalD (P : Program) (w : World) (K : PySem.W.Frag) (mg : Str → Option Value) (base : Heap) (k : Nat) (x : Str) (ps : List Str) (dvs : List V) (sp : Sp) : Prop :=
  ∃ (f : Addr) (fd : FuncData) (ds : List Value), mg x = some (.ref f) ∧ PySem.W.keepIn K (.ref f) = true ∧ Vals dvs ds ∧ Binds K fd ps ds ∧ FnOk P w K mg base CX0 k f fd ps sp
theorem pe_cald {X : Cx} {k j : Nat} {x : Str} {ps : List Str} {dvs : List V} {sp : Sp} {e : Expr} {es : List Expr} {t : TA} {p pos : Pos} (c : CalD X.prog X.w X.K X.mg X.base k x ps dvs sp) (hr : Room j X.A) (ha : PA X (e :: es) t) (hle : k ≤ j := by decide) (hg : Gl X x := by rfl)
    (hdb : (x == ("__debug__" : Str)) = false := by decide) (he : starEach (e :: es) X.env = (false, eval e X.env) :: starEach es X.env := by rfl) (hpl : (backTo pos (starEach es X.env)).any (·.1) = false := by rfl) :
    PE X (.Call (.Name x p) (e :: es) [] pos) (tCall sp dvs E0 t) := by
  obtain ⟨f, fd, ds, h1, h2, hd, h3, h4⟩ := c
  exact pe_call h4 (hr.mono hle) hg h1 h2 h3 hd pass0 ha hdb he hpl
def CalK (P : Program) (w : World) (K : PySem.W.Frag) (mg : Str → Option Value) (base : Heap) (k : Nat) (x : Str) (ps : List Str) (n : Nat) (ks : List Str) (gV : List V → List V → List V) (sp : Sp) : Prop :=
  ∃ (f : Addr) (fd : FuncData) (g : List Value → List Value → List Value), mg x = some (.ref f) ∧ PySem.W.keepIn K (.ref f) = true ∧ KBn K fd ps n ks g gV ∧ FnOk P w K mg base CX0 k f fd ps sp
theorem pe_calk {X : Cx} {k j n : Nat} {x : Str} {ps ks : List Str} {gV : List V → List V → List V} {sp : Sp} {e : Expr} {es : List Expr} {kws : List Keyword} {t tk : TA} {p pos : Pos} (c : CalK X.prog X.w X.K X.mg X.base k x ps n ks gV sp) (hr : Room j X.A)
    (ha : PA X (e :: es) t) (hkw : PK X kws tk) (hle : k ≤ j := by decide) (hg : Gl X x := by rfl) (hall : (backToKw pos (keywordEach kws X.env)).all (·.1.isSome) = true := by rfl) (hks : (backToKw pos (keywordEach kws X.env)).filterMap (·.1) = ks := by rfl)
    (hdb : (x == ("__debug__" : Str)) = false := by decide) (he : starEach (e :: es) X.env = (false, eval e X.env) :: starEach es X.env := by rfl)
    (hpl : ((backTo pos (starEach (e :: es) X.env)).any (·.1) || (backToKw pos (keywordEach kws X.env)).any (·.1.isNone)) = false := by rfl) :
    PE X (.Call (.Name x p) (e :: es) kws pos) (tCallN n ks.length sp gV E0 t tk) := by
  obtain ⟨f, fd, g, h1, h2, h3, h4⟩ := c
  exact pe_callN h4 (hr.mono hle) hg h1 h2 h3 pass0 ha hkw hall hks hdb he hpl
theorem pe_calk0 {X : Cx} {k j : Nat} {x : Str} {ps ks : List Str} {gV : List V → List V → List V} {sp : Sp} {kws : List Keyword} {tk : TA} {p pos : Pos} (c : CalK X.prog X.w X.K X.mg X.base k x ps 0 ks gV sp) (hr : Room j X.A)
    (hkw : PK X kws tk) (hle : k ≤ j := by decide) (hg : Gl X x := by rfl) (hall : (backToKw pos (keywordEach kws X.env)).all (·.1.isSome) = true := by rfl) (hks : (backToKw pos (keywordEach kws X.env)).filterMap (·.1) = ks := by rfl)
    (hdb : (x == ("__debug__" : Str)) = false := by decide)
    (hpl : ((backTo pos (starEach [] X.env)).any (·.1) || (backToKw pos (keywordEach kws X.env)).any (·.1.isNone)) = false := by rfl) :
    PE X (.Call (.Name x p) [] kws pos) (tCallN 0 ks.length sp gV E0 tNil tk) := by
  obtain ⟨f, fd, g, h1, h2, h3, h4⟩ := c
  refine ⟨fun pins s σ H Q I h => ?_⟩
  refine wpAny_Call_Name_kw (ld_glob I hg h1 ?_ hdb)
  refine PySem.W.callWith_KW0 (h₀ := X.base) I.ok.mod.kin h2 hall (thn (hkw.run pos pins s σ H _ I h) fun ws s2 ⟨zs, H2, I2, rz, l1, l2, q2⟩ => ⟨I2.kIn, ?_⟩) hpl
  rw [hks]
  exact run_fnN (vs := []) (us := []) h4 (hr.mono hle) h3 pass0 I2 .nil rz l1 l2 q2
/-- a class handed to isinstance -/
theorem isiB {K : PySem.W.Frag} {H : Hp} {x : V} {a b : String} {r : Bool} {Q : VK} (ty : TyX K H x (.type a)) (k : kitB a b = some r) (q : Q (.bl r) H) : rIsi K [x, .ty b] H Q :=
  ⟨x, .ty b, .type a, .type b, r, rfl, .ty _, ty, kit_ty k, q⟩
/-- whether a thing is a whole number -/
def WholeIs (K : PySem.W.Frag) (H : Hp) (x : V) (b : Bool) : Prop := (∃ i, x = .int i ∧ b = true) ∨ (∃ c, x = .bl c ∧ b = false) ∨ (b = false ∧ ∃ t : String, TyX K H x (.type t) ∧ kitB t "int" = some false)
theorem WholeIs.int {K : PySem.W.Frag} {H : Hp} (i : Int) : WholeIs K H (.int i) true := .inl ⟨i, rfl, rfl⟩
def spWhole (K : PySem.W.Frag) : Sp := fun vs H Q _ => ∃ (x : V) (b : Bool), vs = [x] ∧ WholeIs K H x b ∧ Q (.bl b) H
/-! ### the mathematics of fractions in lowest terms -/
def gI (t b : Int) : Int := (Int.gcd t b : Nat)
def lowT (t b : Int) : Int := (if b < 0 then -t else t) / gI t b
def lowB (t b : Int) : Int := (if b < 0 then -b else b) / gI t b
theorem gI_neg (t b : Int) : gI (-t) (-b) = gI t b := by
  unfold gI
  rw [Int.neg_gcd, Int.gcd_neg]
theorem gI_pos {t b : Int} (h : b ≠ 0) : 0 < gI t b := by
  have : 0 < Int.gcd t b := Int.gcd_pos_of_ne_zero_right t h
  unfold gI
  omega
theorem gI_le {t b : Int} (h : b ≠ 0) : (gI t b).natAbs ≤ b.natAbs := by
  have d : Int.gcd t b ∣ b.natAbs := Nat.gcd_dvd_right t.natAbs b.natAbs
  have := Nat.le_of_dvd (by omega) d
  unfold gI
  omega
def spShared : Sp := fun vs H Q _ => ∃ t b : Int, vs = [.int t, .int b] ∧ 0 ≤ b ∧ Q (.int (gI t b)) H
def spLow : Sp := fun vs H Q _ => ∃ t b : Int, vs = [.int t, .int b] ∧ b ≠ 0 ∧ b.natAbs < 2 ^ 4000 ∧ ∀ p, H p = none → Q (.ref p) (upd H p (.tup [.int (lowT t b), .int (lowB t b)]))
/-- two fractions at two places; the tops and bottoms told by f and d -/
def spTwo (K : PySem.W.Frag) (pre : Int → Int → Int → Int → Prop) (f d : Int → Int → Int → Int → Int) : Sp := fun vs H Q _ => ∃ (a c : Addr) (t u v x : Int), vs = [.ref a, .ref c] ∧ SqT K H a [.int t, .int u] ∧ SqT K H c [.int v, .int x] ∧
  pre t u v x ∧ 0 < u ∧ 0 < x ∧ t.natAbs < 2 ^ 1900 ∧ u.natAbs < 2 ^ 1900 ∧ v.natAbs < 2 ^ 1900 ∧ x.natAbs < 2 ^ 1900 ∧ ∀ p, H p = none → Q (.ref p) (upd H p (.tup [.int (lowT (f t u v x) (d t u v x)), .int (lowB (f t u v x) (d t u v x))]))
def spUnder (K : PySem.W.Frag) : Sp := fun vs H Q _ => ∃ (a c : Addr) (t u v x : Int), vs = [.ref a, .ref c] ∧ SqT K H a [.int t, .int u] ∧ SqT K H c [.int v, .int x] ∧
  t.natAbs < 2 ^ 1900 ∧ u.natAbs < 2 ^ 1900 ∧ v.natAbs < 2 ^ 1900 ∧ x.natAbs < 2 ^ 1900 ∧ Q (.bl (decide (t * x < v * u))) H
def absI (t : Int) : Int := if t < 0 then -t else t
def spSize (K : PySem.W.Frag) : Sp := fun vs H Q _ => ∃ (a : Addr) (t u : Int), vs = [.ref a] ∧ SqT K H a [.int t, .int u] ∧ ∀ p, H p = none → Q (.ref p) (upd H p (.tup [.int (absI t), .int u]))
def twoT (m : Int) : Int := if m < 0 then 1 else 2 ^ m.toNat
def twoB (m : Int) : Int := if m < 0 then 2 ^ (-m).toNat else 1
def spTwoTo : Sp := fun vs H Q _ => ∃ m : Int, vs = [.int m] ∧ -400 ≤ m ∧ m ≤ 400 ∧ ∀ p, H p = none → Q (.ref p) (upd H p (.tup [.int (twoT m), .int (twoB m)]))
def spIsFrac : Sp := fun vs H Q _ => ∃ (a : Addr) (t u : Int), vs = [.ref a] ∧ H a = some (.tup [.int t, .int u]) ∧ 1 ≤ u ∧ Q (.bl (decide (gI t u = 1))) H
theorem up {x : Nat} {a b : Nat} (h : x < 2 ^ a) (l : a ≤ b) : x < 2 ^ b := Nat.lt_of_lt_of_le h (Nat.pow_le_pow_right (by decide) l)
theorem up2 {x y : Nat} {a b : Nat} (h : x ≤ y) (h2 : y < 2 ^ a) (l : a ≤ b) : x < 2 ^ b := Nat.lt_of_le_of_lt h (up h2 l)
theorem same_but {H H1 H2 : Hp} {p : Addr} (s : Same H H1) (b : SameBut p H1 H2) (hp : H p = none) : Same H H2 := fun a o e => b a o (ne_of_none e hp) (s a o e)
theorem Same.free {H H' : Hp} {p : Addr} (s : Same H H') (h : H' p = none) : H p = none := by
  cases e : H p with
  | none => rfl
  | some o =>
    rw [s _ _ e] at h
    cases h
structure Zs (mg : Str → Option Value) : Prop where
  isinstance : mg "isinstance" = none
  int : mg "int" = none
  bool : mg "bool" = none
  abs : mg "abs" = none
  str : mg "str" = none
  len : mg "len" = none
  max : mg "max" = none
  tuple : mg "tuple" = none
  list : mg "list" = none
  enumerate : mg "enumerate" = none
  all : mg "all" = none
  zip : mg "zip" = none
  range : mg "range" = none
  min : mg "min" = none
  sorted : mg "sorted" = none
section
variable {P : Program} {w : World} {K : PySem.W.Frag} {mg : Str → Option Value} {base : Heap}
theorem sc_is_whole : FnScope ["thing"] ["thing"] (defScope s_is_whole) := ⟨rfl, rfl, rfl, by decide +kernel, rfl, by decide +kernel, by decide +kernel⟩
theorem ok_is_whole {f : Addr} {fd : FuncData} {k : Nat} (F : Fun K "is_whole" "is_whole" s_is_whole f fd) (z : Zs mg) : FnOk P w K mg base CX0 (k + 1) f fd ["thing"] (spWhole K) := by
  refine F.ok sc_is_whole (fun vs H Q E h => ?_) (fun cdv A outer s H vs Q E hr h => ?_)
  · obtain ⟨x, b, rfl, _⟩ := h
    rfl
  · obtain ⟨x, b, rfl, hw, q⟩ := h
    refine ⟨_, (pss_one (ps_ret (pe_and (pe_callB call_isi (by rfl) z.isinstance (by decide +kernel) (pa_cons (pv 0) (pa_cons (pe_bltn (v := .ty "int") (by rfl) z.int (by decide +kernel) rfl) pa_nil))) (pe_one (pe_not (pe_callB call_isi (by rfl) z.isinstance (by decide +kernel) (pa_cons (pv 0) (pa_cons (pe_bltn (v := .ty "bool") (by rfl) z.bool (by decide +kernel) rfl) pa_nil)))))))), ?_⟩
    rcases hw with ⟨i, rfl, rfl⟩ | ⟨c, rfl, rfl⟩ | ⟨rfl, t, ty, kt⟩
    · exact ⟨_, rfl, _, .ty "int", _, _, true, rfl, .ty _, .base (.int i), kit_ty (by decide +kernel), _, rfl, iteT ⟨_, rfl, _, .ty "bool", _, _, false, rfl, .ty _, .base (.int i), kit_ty (by decide +kernel), _, rfl, q⟩⟩
    · exact ⟨_, rfl, _, .ty "int", _, _, true, rfl, .ty _, .base (.bl c), kit_ty (by decide +kernel), _, rfl, iteT ⟨_, rfl, _, .ty "bool", _, _, true, rfl, .ty _, .base (.bl c), kit_ty (by decide +kernel), _, rfl, q⟩⟩
    · exact ⟨_, rfl, _, .ty "int", _, _, false, rfl, .ty _, ty, kit_ty kt, _, rfl, iteF q⟩
theorem sc_shared_divisor : FnScope ["top", "bottom", "one", "other"] ["top", "bottom"] (defScope s_shared_divisor) := ⟨rfl, rfl, rfl, by decide +kernel, rfl, by decide +kernel, by decide +kernel⟩
theorem ok_shared_divisor {f : Addr} {fd : FuncData} {k : Nat} (F : Fun K "shared_divisor" "shared_divisor" s_shared_divisor f fd) (z : Zs mg) : FnOk P w K mg base CX0 (k + 1) f fd ["top", "bottom"] spShared := by
  refine F.ok sc_shared_divisor (fun vs H Q E h => ?_) (fun cdv A outer s H vs Q E hr h => ?_)
  · obtain ⟨t, b, rfl, _⟩ := h
    rfl
  · obtain ⟨t, b, rfl, hb, q⟩ := h
    refine ⟨_, (pss_cons (ps_set (i := 2) sc_shared_divisor.nd rfl (.inl rfl) (pe_callB call_abs (by rfl) z.abs (by decide +kernel) (pa_cons (pv 0) pa_nil)))
      (pss_cons (ps_set (i := 3) sc_shared_divisor.nd rfl (.inl rfl) (pv 1))
      (pss_cons (ps_while PassesOwn.never (pt_truth (pv 3) (by intro _; rfl)) (pss_one (ps_par (i := 2) (j := 3) (by rfl) sc_shared_divisor.nd rfl rfl (by decide) rfl rfl (pa_cons (pv 3) (pa_cons (pe_op op_mod (pv 2) (pv 3)) pa_nil)) (by rfl))))
      (pss_one (ps_ret (pv 2)))))), ?_⟩
    refine ⟨_, rfl, _, rfl, ?_⟩
    refine ⟨_, rfl, ?_⟩
    dsimp only [gName, tSeq]
    refine while_by (fun σ H' => H' = H ∧ ∃ m n : Nat, σ = [some (.int t), some (.int b), some (.int (m : Int)), some (.int (n : Int))] ∧ Nat.gcd m n = Int.gcd t b)
      (fun σ _ => match σ with | [_, _, _, some (.int r)] => r.toNat | _ => 0) ⟨rfl, t.natAbs, b.natAbs, ?_, rfl⟩ (fun σ H1 hP => ?_) (fun σ H Q Q' m hh => ?_)
    · have e1 : (if t < 0 then -t else t) = (t.natAbs : Int) := by split <;> omega
      have e2 : b = (b.natAbs : Int) := by omega
      show [some (V.int t), some (V.int b), some (V.int (if t < 0 then -t else t)), some (V.int b)] = _
      rw [e1, ← e2]
    · obtain ⟨rfl, m, n, rfl, hg⟩ := hP
      refine ⟨_, rfl, _, rfl, ?_⟩
      by_cases hn : n = 0
      · subst hn
        have e : ((((0 : Nat) : Int)) != 0) = false := rfl
        rw [e]
        refine iteF ⟨_, rfl, ?_⟩
        rw [Nat.gcd_zero_right] at hg
        have e2 : (m : Int) = gI t b := by
          unfold gI
          rw [hg]
        rw [e2]
        exact q
      · have e : ((n : Int) != 0) = true := by
          rw [bne_iff_ne]
          omega
        rw [e]
        refine iteT ⟨_, rfl, _, rfl, _, rfl, _, _, rfl, rfl, (by omega), _, _, rfl, ⟨⟨rfl, n, m % n, rfl, ?_⟩, ?_⟩⟩
        · rw [← hg, Nat.gcd_comm n (m % n), ← Nat.gcd_rec n m, Nat.gcd_comm]
        · show ((m : Int) % (n : Int)).toNat < ((n : Int)).toNat
          have := Int.emod_lt_of_pos (m : Int) (show (0 : Int) < n by omega)
          have := Int.emod_nonneg (m : Int) (show (n : Int) ≠ 0 by omega)
          omega
    · obtain ⟨v, e, kk, tv, hq⟩ := hh
      exact ⟨v, e, kk, tv, m _ _ hq⟩
theorem sc_lowest : FnScope ["top", "bottom", "shared"] ["top", "bottom"] (defScope s_lowest) := ⟨rfl, rfl, rfl, by decide +kernel, rfl, by decide +kernel, by decide +kernel⟩
theorem ok_lowest {f : Addr} {fd : FuncData} (F : Fun K "lowest" "lowest" s_lowest f fd) (c_shared_divisor : Cal P w K mg base 1 "shared_divisor" ["top", "bottom"] spShared) : FnOk P w K mg base CX0 2 f fd ["top", "bottom"] spLow := by
  refine F.ok sc_lowest (fun vs H Q E h => ?_) (fun cdv A outer s H vs Q E hr h => ?_)
  · obtain ⟨t, b, rfl, _⟩ := h
    rfl
  · obtain ⟨t, b, rfl, hb, hl, q⟩ := h
    refine ⟨_, (pss_cons (ps_if (pt_cmpR op_lt (pv 1) pe_int (nomark _)) (pss_cons (ps_set (i := 0) sc_lowest.nd rfl (.inl rfl) (pe_un un_neg (pv 0)))
      (pss_one (ps_set (i := 1) sc_lowest.nd rfl (.inl rfl) (pe_un un_neg (pv 1))))) pss_nil)
      (pss_cons (ps_set (i := 2) sc_lowest.nd rfl (.inl rfl) (pe_cal c_shared_divisor hr (pa_cons (pv 0) (pa_cons (pv 1) pa_nil))))
      (pss_one (ps_ret (pe_tup (pa_cons (pe_op op_fdivW (pv 0) (pv 2)) (pa_cons (pe_op op_fdivW (pv 1) (pv 2)) pa_nil))))))), ?_⟩
    have g0 := gI_pos (t := t) hb
    have g1 : (gI t b).natAbs < 2 ^ 4000 := Nat.lt_of_le_of_lt (gI_le hb) hl
    refine ⟨_, rfl, _, _, rfl, rfl, _, rfl, ite2 (fun c => ?_) (fun c => ?_)⟩
    · have hc := toB c
      refine ⟨_, rfl, _, rfl, ?_⟩
      refine ⟨_, rfl, _, rfl, ?_⟩
      refine ⟨_, rfl, _, rfl, -t, -b, rfl, by omega, ?_⟩
      rw [gI_neg]
      refine ⟨_, rfl, _, rfl, _, _, rfl, rfl, wide_div g0 g1 (by decide) (by decide), _, rfl, _, rfl, _, _, rfl, rfl, wide_div g0 g1 (by decide) (by decide), (by show 2 ≤ sizeLine; decide), fun p hp => ?_⟩
      have := q p hp
      unfold lowT lowB at this
      rw [if_pos hc, if_pos hc] at this
      exact this
    · have hc := toNB c
      refine ⟨_, rfl, _, rfl, t, b, rfl, by omega, ?_⟩
      refine ⟨_, rfl, _, rfl, _, _, rfl, rfl, wide_div g0 g1 (by decide) (by decide), _, rfl, _, rfl, _, _, rfl, rfl, wide_div g0 g1 (by decide) (by decide), (by show 2 ≤ sizeLine; decide), fun p hp => ?_⟩
      have := q p hp
      unfold lowT lowB at this
      rw [if_neg hc, if_neg hc] at this
      exact this
theorem sc_times : FnScope ["one", "other"] ["one", "other"] (defScope s_times) := ⟨rfl, rfl, rfl, by decide +kernel, rfl, by decide +kernel, by decide +kernel⟩
theorem ok_times {f : Addr} {fd : FuncData} (F : Fun K "times" "times" s_times f fd) (c_lowest : Cal P w K mg base 2 "lowest" ["top", "bottom"] spLow) : FnOk P w K mg base CX0 3 f fd ["one", "other"] (spTwo K (fun t u v x => True) (fun t u v x => t * v) (fun t u v x => u * x)) := by
  refine F.ok sc_times (fun vs H Q E h => ?_) (fun cdv A outer s H vs Q E hr h => ?_)
  · obtain ⟨a, c, t, u, v, x, rfl, _⟩ := h
    rfl
  · obtain ⟨a, c, t, u, v, x, rfl, ha, hc, pr, hu, hx, b1, b2, b3, b4, q⟩ := h
    refine ⟨_, (pss_one (ps_ret (pe_cal c_lowest hr (pa_cons (pe_op op_mulW (pe_ix ix_tup (pv 0) pe_int (fun _ _ => rfl)) (pe_ix ix_tup (pv 1) pe_int (fun _ _ => rfl))) (pa_cons (pe_op op_mulW (pe_ix ix_tup (pv 0) pe_int (fun _ _ => rfl)) (pe_ix ix_tup (pv 1) pe_int (fun _ _ => rfl))) pa_nil))))), ?_⟩
    have nz : u * x ≠ 0 := Int.mul_ne_zero (by omega) (by omega)
    refine ⟨_, rfl, a, _, 0, .int t, rfl, rfl, ha, a0, _, rfl, c, _, 0, .int v, rfl, rfl, hc, a0, _, _, rfl, rfl, wide_mul b1 b3 (by decide) (by decide) (by decide), _, rfl, a, _, 1, .int u, rfl, rfl, ha, a1, _, rfl, c, _, 1, .int x, rfl, rfl, hc, a1, _, _, rfl, rfl, wide_mul b2 b4 (by decide) (by decide) (by decide), _, _, rfl, nz, ?_, q⟩
    exact Nat.lt_of_lt_of_le (wide_lt b2 b4) (Nat.pow_le_pow_right (by decide) (by decide))
theorem sc_divided : FnScope ["one", "other"] ["one", "other"] (defScope s_divided) := ⟨rfl, rfl, rfl, by decide +kernel, rfl, by decide +kernel, by decide +kernel⟩
theorem ok_divided {f : Addr} {fd : FuncData} (F : Fun K "divided" "divided" s_divided f fd) (c_lowest : Cal P w K mg base 2 "lowest" ["top", "bottom"] spLow) : FnOk P w K mg base CX0 3 f fd ["one", "other"] (spTwo K (fun t u v x => v ≠ 0) (fun t u v x => t * x) (fun t u v x => u * v)) := by
  refine F.ok sc_divided (fun vs H Q E h => ?_) (fun cdv A outer s H vs Q E hr h => ?_)
  · obtain ⟨a, c, t, u, v, x, rfl, _⟩ := h
    rfl
  · obtain ⟨a, c, t, u, v, x, rfl, ha, hc, pr, hu, hx, b1, b2, b3, b4, q⟩ := h
    refine ⟨_, (pss_cons (ps_if (pt_cmpR op_eq (pe_ix ix_tup (pv 1) pe_int (fun _ _ => rfl)) pe_int (nomark _)) (pss_one ps_never) pss_nil)
      (pss_one (ps_ret (pe_cal c_lowest hr (pa_cons (pe_op op_mulW (pe_ix ix_tup (pv 0) pe_int (fun _ _ => rfl)) (pe_ix ix_tup (pv 1) pe_int (fun _ _ => rfl))) (pa_cons (pe_op op_mulW (pe_ix ix_tup (pv 0) pe_int (fun _ _ => rfl)) (pe_ix ix_tup (pv 1) pe_int (fun _ _ => rfl))) pa_nil)))))), ?_⟩
    have nz : u * v ≠ 0 := Int.mul_ne_zero (by omega) pr
    refine ⟨_, rfl, c, _, 0, .int v, rfl, rfl, hc, a0, rfl, _, rfl, ite2 (fun c' => absurd (V.int.inj (toB c')) pr) (fun _ => ?_)⟩
    refine ⟨_, rfl, a, _, 0, .int t, rfl, rfl, ha, a0, _, rfl, c, _, 1, .int x, rfl, rfl, hc, a1, _, _, rfl, rfl, wide_mul b1 b4 (by decide) (by decide) (by decide), _, rfl, a, _, 1, .int u, rfl, rfl, ha, a1, _, rfl, c, _, 0, .int v, rfl, rfl, hc, a0, _, _, rfl, rfl, wide_mul b2 b3 (by decide) (by decide) (by decide), _, _, rfl, nz, ?_, q⟩
    exact Nat.lt_of_lt_of_le (wide_lt b2 b3) (Nat.pow_le_pow_right (by decide) (by decide))
theorem sc_two_to : FnScope ["many"] ["many"] (defScope s_two_to) := ⟨rfl, rfl, rfl, by decide +kernel, rfl, by decide +kernel, by decide +kernel⟩
theorem ok_two_to {f : Addr} {fd : FuncData} (F : Fun K "two_to" "two_to" s_two_to f fd) (z : Zs mg) (c_is_whole : Cal P w K mg base 1 "is_whole" ["thing"] (spWhole K)) (g_GREATEST_POWER : ∃ t, mg "GREATEST_POWER" = some (.int 400 t)) : FnOk P w K mg base CX0 2 f fd ["many"] spTwoTo := by
  refine F.ok sc_two_to (fun vs H Q E h => ?_) (fun cdv A outer s H vs Q E hr h => ?_)
  · obtain ⟨m, rfl, _⟩ := h
    rfl
  · obtain ⟨m, rfl, m0, m1, q⟩ := h
    obtain ⟨tok, gP⟩ := g_GREATEST_POWER
    refine ⟨_, (pss_cons (ps_if (PW.pt (pw_or (pt_not (pt_val (pe_cal c_is_whole hr (pa_cons (pv 0) pa_nil)))) (pw_or1 (pt_cmpR op_gt (pe_callB call_abs (by rfl) z.abs (by decide +kernel) (pa_cons (pv 0) pa_nil)) (pe_glob (v := .int 400) (by rfl) gP ⟨_, rfl⟩) (nomark _))))) (pss_one ps_never) pss_nil)
      (pss_cons (ps_if (pt_cmpR op_lt (pv 0) pe_int (nomark _)) (pss_one (ps_ret (pe_tup (pa_cons pe_int (pa_cons (pe_op op_shl pe_int (pe_un un_neg (pv 0))) pa_nil))))) pss_nil)
      (pss_one (ps_ret (pe_tup (pa_cons (pe_op op_shl pe_int (pv 0)) (pa_cons pe_int pa_nil))))))), ?_⟩
    refine ⟨_, rfl, _, _, rfl, .int m, _, rfl, iteF ⟨_, rfl, _, rfl, _, _, rfl, rfl, _, rfl, ite2 (fun c => ?_) (fun c => ?_)⟩⟩
    · have := toB c
      split at this <;> omega
    · refine ⟨_, rfl, _, _, rfl, rfl, _, rfl, ite2 (fun c2 => ?_) (fun c2 => ?_)⟩
      · have hm := toB c2
        refine ⟨_, rfl, _, rfl, _, _, rfl, rfl, ⟨by omega, by omega, by decide⟩, (by show 2 ≤ sizeLine; decide), fun p hp => ?_⟩
        have e := q p hp
        unfold twoT twoB at e
        rw [if_pos hm, if_pos hm] at e
        show Q (.ref p) (upd H p (.tup [.int 1, .int (1 * 2 ^ (-m).toNat)]))
        rw [Int.one_mul]
        exact e
      · have hm := toNB c2
        refine ⟨_, rfl, _, _, rfl, rfl, ⟨by omega, by omega, by decide⟩, (by show 2 ≤ sizeLine; decide), fun p hp => ?_⟩
        have e := q p hp
        unfold twoT twoB at e
        rw [if_neg hm, if_neg hm] at e
        show Q (.ref p) (upd H p (.tup [.int (1 * 2 ^ m.toNat), .int 1]))
        rw [Int.one_mul]
        exact e
end
end E1

namespace E1
open PySem PySem.Spec PyProof.Rows L2
/-! ### the seven manners -/
inductive Mn where
  | down | up | inn | out | half | even | far
def Mn.str : Mn → Str
  | .down => "down"
  | .up => "up"
  | .inn => "in"
  | .out => "out"
  | .half => "half"
  | .even => "even"
  | .far => "far"
def fDown (t b : Int) : Int := t / b
def fUp (t b : Int) : Int := -(-t / b)
def fHalf (t b : Int) : Int := (2 * t + b) / (2 * b)
def fEven (t b : Int) : Int := if 2 * (fHalf t b * b - t) = b ∧ fHalf t b % 2 ≠ 0 then fHalf t b - 1 else fHalf t b
def fFar (t b : Int) : Int := if t > 0 then fHalf t b else -(fHalf (-t) b)
def fIn (t b : Int) : Int := if t > 0 then fDown t b else fUp t b
def fOut (t b : Int) : Int := if t > 0 then fUp t b else fDown t b
def Mn.f : Mn → Int → Int → Int
  | .down => fDown
  | .up => fUp
  | .inn => fIn
  | .out => fOut
  | .half => fHalf
  | .even => fEven
  | .far => fFar
def lawR (m : Mn) (t b : Int) : Int :=
  match m with
  | .down => t / b
  | .up => if t % b = 0 then t / b else t / b + 1
  | .inn => if t % b = 0 then t / b else t / b + (if t < 0 then 1 else 0)
  | .out => if t % b = 0 then t / b else t / b + (if t > 0 then 1 else 0)
  | .half => if 2 * (t % b) < b then t / b else t / b + 1
  | .even => if 2 * (t % b) < b then t / b else if b < 2 * (t % b) then t / b + 1 else t / b + t / b % 2
  | .far => if 2 * (t % b) < b then t / b else if b < 2 * (t % b) then t / b + 1 else t / b + (if t > 0 then 1 else 0)
theorem div_is {t b q : Int} (hb : 0 < b) (h1 : q * b ≤ t) (h2 : t < q * b + b) : t / b = q := by
  have a1 : q ≤ t / b := Int.le_ediv_of_mul_le hb h1
  have a2 : t / b < q + 1 := Int.ediv_lt_of_lt_mul hb (by rw [Int.add_mul, Int.one_mul]; exact h2)
  omega
theorem dm (t : Int) {b : Int} (hb : 0 < b) : t = t / b * b + t % b ∧ 0 ≤ t % b ∧ t % b < b := by
  refine ⟨?_, Int.emod_nonneg _ (by omega), Int.emod_lt_of_pos _ hb⟩
  have := Int.mul_ediv_add_emod t b
  rw [Int.mul_comm] at this
  omega
theorem fUp_is {t b : Int} (hb : 0 < b) : fUp t b = if t % b = 0 then t / b else t / b + 1 := by
  obtain ⟨e, r0, r1⟩ := dm t hb
  unfold fUp
  generalize t / b = q at *
  generalize t % b = r at *
  split
  · rename_i h
    have := div_is (t := -t) (q := -q) hb (by rw [Int.neg_mul]; omega) (by rw [Int.neg_mul]; omega)
    rw [this]
    omega
  · rename_i h
    have := div_is (t := -t) (q := -q - 1) hb (by rw [Int.sub_mul, Int.neg_mul, Int.one_mul]; omega) (by rw [Int.sub_mul, Int.neg_mul, Int.one_mul]; omega)
    rw [this]
    omega
theorem fHalf_is {t b : Int} (hb : 0 < b) : fHalf t b = if 2 * (t % b) < b then t / b else t / b + 1 := by
  obtain ⟨e, r0, r1⟩ := dm t hb
  unfold fHalf
  generalize t / b = q at *
  generalize t % b = r at *
  have e2 : q * (2 * b) = 2 * (q * b) := Int.mul_left_comm q 2 b
  split
  · rename_i h
    exact div_is (by omega) (by rw [e2]; omega) (by rw [e2]; omega)
  · rename_i h
    exact div_is (by omega) (by rw [Int.add_mul, e2, Int.one_mul]; omega) (by rw [Int.add_mul, e2, Int.one_mul]; omega)
theorem fHalf_neg {t b : Int} (hb : 0 < b) : -(fHalf (-t) b) = if b < 2 * (t % b) then t / b + 1 else t / b := by
  obtain ⟨e, r0, r1⟩ := dm t hb
  unfold fHalf
  generalize t / b = q at *
  generalize t % b = r at *
  have e2 : q * (2 * b) = 2 * (q * b) := Int.mul_left_comm q 2 b
  split
  · rename_i h
    have := div_is (t := 2 * -t + b) (b := 2 * b) (q := -q - 1) (by omega) (by rw [Int.sub_mul, Int.neg_mul, e2, Int.one_mul]; omega) (by rw [Int.sub_mul, Int.neg_mul, e2, Int.one_mul]; omega)
    rw [this]
    omega
  · rename_i h
    have := div_is (t := 2 * -t + b) (b := 2 * b) (q := -q) (by omega) (by rw [Int.neg_mul, e2]; omega) (by rw [Int.neg_mul, e2]; omega)
    rw [this]
    omega
theorem fEven_is {t b : Int} (hb : 0 < b) : fEven t b = lawR .even t b := by
  obtain ⟨e, r0, r1⟩ := dm t hb
  unfold fEven
  rw [fHalf_is hb]
  show _ = if 2 * (t % b) < b then t / b else if b < 2 * (t % b) then t / b + 1 else t / b + t / b % 2
  generalize t / b = q at *
  generalize t % b = r at *
  by_cases h : 2 * r < b
  · rw [if_pos h, if_pos h, if_neg (by intro z; omega)]
  · rw [if_neg h, if_neg h, Int.add_mul, Int.one_mul]
    by_cases h2 : b < 2 * r
    · rw [if_pos h2, if_neg (by intro z; omega)]
    · rw [if_neg h2]
      by_cases h3 : (q + 1) % 2 ≠ 0
      · rw [if_pos ⟨by omega, h3⟩]
        omega
      · rw [if_neg (fun z => h3 z.2)]
        omega
theorem f_lawR (m : Mn) {t b : Int} (hb : 0 < b) : m.f t b = lawR m t b := by
  obtain ⟨e, r0, r1⟩ := dm t hb
  cases m with
  | down => rfl
  | up => exact fUp_is hb
  | inn =>
    show fIn t b = if t % b = 0 then t / b else t / b + (if t < 0 then 1 else 0)
    unfold fIn fDown
    rw [fUp_is hb]
    by_cases h : t > 0
    · rw [if_pos h, if_neg (show ¬ t < 0 by omega)]
      split <;> omega
    · rw [if_neg h]
      by_cases h2 : t < 0
      · rw [if_pos h2]
      · have h3 : t = 0 := by omega
        rw [if_neg h2, h3]
        simp
  | out =>
    show fOut t b = if t % b = 0 then t / b else t / b + (if t > 0 then 1 else 0)
    unfold fOut fDown
    rw [fUp_is hb]
    by_cases h : t > 0
    · rw [if_pos h, if_pos h]
    · rw [if_neg h, if_neg h]
      split <;> omega
  | half => exact fHalf_is hb
  | even => exact fEven_is hb
  | far =>
    show fFar t b = if 2 * (t % b) < b then t / b else if b < 2 * (t % b) then t / b + 1 else t / b + (if t > 0 then 1 else 0)
    unfold fFar
    rw [fHalf_is hb, fHalf_neg hb]
    by_cases h : t > 0
    · rw [if_pos h, if_pos h]
      split
      · rfl
      · split <;> rfl
    · rw [if_neg h, if_neg h]
      by_cases h2 : 2 * (t % b) < b
      · rw [if_pos h2, if_neg (show ¬ b < 2 * (t % b) by omega)]
      · rw [if_neg h2]
        split <;> omega
theorem lt_g {x y g : Int} (hg : 0 < g) : x * g < y * g ↔ x < y := ⟨fun h => Int.lt_of_mul_lt_mul_right h (Int.le_of_lt hg), fun h => Int.mul_lt_mul_of_pos_right h hg⟩
theorem lawR_mul (m : Mn) {t b g : Int} (hb : 0 < b) (hg : 0 < g) : lawR m (t * g) (b * g) = lawR m t b := by
  have e1 : t * g / (b * g) = t / b := Int.mul_ediv_mul_of_pos_left _ _ hg
  have e2 : t * g % (b * g) = t % b * g := by
    rw [Int.mul_comm t g, Int.mul_comm b g, Int.mul_emod_mul_of_pos _ _ hg, Int.mul_comm]
  have c0 : t % b * g = 0 ↔ t % b = 0 := by
    constructor
    · intro h
      rcases Int.mul_eq_zero.mp h with h | h
      · exact h
      · omega
    · intro h
      rw [h, Int.zero_mul]
  have c1 : t * g < 0 ↔ t < 0 := by
    have := lt_g (x := t) (y := 0) hg
    rw [Int.zero_mul] at this
    exact this
  have c2 : t * g > 0 ↔ t > 0 := by
    have := lt_g (x := 0) (y := t) hg
    rw [Int.zero_mul] at this
    exact this
  have c3 : 2 * (t % b * g) < b * g ↔ 2 * (t % b) < b := by
    rw [← Int.mul_assoc]
    exact lt_g hg
  have c4 : b * g < 2 * (t % b * g) ↔ b < 2 * (t % b) := by
    rw [← Int.mul_assoc]
    exact lt_g hg
  cases m <;> simp only [lawR, e1, e2, c0, c1, c2, c3, c4]
theorem lawR_eq (m : Mn) {t b x y : Int} (hb : 0 < b) (hy : 0 < y) (h : x * b = t * y) : lawR m x y = lawR m t b := by
  rw [← lawR_mul m hy hb, h, Int.mul_comm y b, lawR_mul m hb hy]
/-- how far off -/
theorem lawR_off (m : Mn) {t b : Int} (hb : 0 < b) : -b ≤ lawR m t b * b - t ∧ lawR m t b * b - t ≤ b := by
  obtain ⟨e, r0, r1⟩ := dm t hb
  have key : ∀ q' : Int, (q' = t / b ∨ q' = t / b + 1) → -b ≤ q' * b - t ∧ q' * b - t ≤ b := fun q' h => by
    generalize t / b = q at *
    generalize t % b = r at *
    rcases h with rfl | rfl
    · omega
    · rw [Int.add_mul, Int.one_mul]
      omega
  refine key _ ?_
  clear key
  cases m <;> simp only [lawR] <;> (generalize t / b = q at *) <;> (repeat' split) <;> (first | omega | exact .inl trivial)
theorem lawR_near {m : Mn} {t b : Int} (hb : 0 < b) (hm : m = .half ∨ m = .even ∨ m = .far) : -b ≤ 2 * (lawR m t b * b - t) ∧ 2 * (lawR m t b * b - t) ≤ b := by
  obtain ⟨e, r0, r1⟩ := dm t hb
  have key : ∀ q' : Int, ((q' = t / b ∧ 2 * (t % b) ≤ b) ∨ (q' = t / b + 1 ∧ b ≤ 2 * (t % b))) → -b ≤ 2 * (q' * b - t) ∧ 2 * (q' * b - t) ≤ b := fun q' h => by
    generalize t / b = q at *
    generalize t % b = r at *
    rcases h with ⟨rfl, h⟩ | ⟨rfl, h⟩
    · omega
    · rw [Int.add_mul, Int.one_mul]
      omega
  refine key _ ?_
  clear key
  rcases hm with rfl | rfl | rfl <;> simp only [lawR] <;> (generalize t / b = q at *) <;> (repeat' split) <;> omega

def spRnd (g : Int → Int → Int) : Sp := fun vs H Q _ => ∃ t b : Int, vs = [.int t, .int b] ∧ 0 < b ∧ t.natAbs < 2 ^ 910000 ∧ b.natAbs < 2 ^ 4000 ∧ Q (.int (g t b)) H
structure Mans (P : Program) (w : World) (K : PySem.W.Frag) (mg : Str → Option Value) (base : Heap) (dM : Addr) (es : Array DictEntry) (n : Nat) : Prop where
  gm : mg "MANNERS" = some (.ref dM)
  D : KDict K w dM es n
  at_ : ∀ m : Mn, ∃ (f : Addr) (fd : FuncData), PySem.W.nsIn K dM m.str = some (some (.ref f)) ∧ PySem.W.keepIn K (.ref f) = true ∧ Binds K fd ["top", "bottom"] [] ∧ FnOk P w K mg base CX0 2 f fd ["top", "bottom"] (spRnd m.f)
/-- whether a thing is a manner -/
def MannerIs (K : PySem.W.Frag) (H : Hp) (dM : Addr) (x : V) (b : Bool) : Prop := (∃ m : Mn, x = .str m.str ∧ b = true) ∨ (∃ z : Str, x = .str z ∧ PySem.W.nsIn K dM z = some none ∧ b = false) ∨ (b = false ∧ ∃ t : String, TyX K H x (.type t) ∧ kitB t "str" = some false)
def spManner (K : PySem.W.Frag) (dM : Addr) : Sp := fun vs H Q _ => ∃ (x : V) (b : Bool), vs = [x] ∧ MannerIs K H dM x b ∧ Q (.bl b) H
def spRounded (K : PySem.W.Frag) : Sp := fun vs H Q _ => ∃ (a : Addr) (m : Mn) (t b : Int), vs = [.ref a, .str m.str] ∧ SqT K H a [.int t, .int b] ∧ 0 < b ∧ t.natAbs < 2 ^ 910000 ∧ b.natAbs < 2 ^ 4000 ∧ Q (.int (m.f t b)) H
theorem two_b {b : Int} (h : b.natAbs < 2 ^ 4000) : (2 * b).natAbs < 2 ^ 4001 := by
  rw [Int.natAbs_mul, Nat.pow_succ, Nat.mul_comm]
  exact Nat.mul_lt_mul_of_pos_right h (by decide)
theorem half_le {t b : Int} (ht : t.natAbs < 2 ^ 910000) (hb : b.natAbs < 2 ^ 4000) : (fHalf t b).natAbs < 2 ^ 910003 := by
  unfold fHalf
  refine Nat.lt_of_le_of_lt (Int.natAbs_ediv_le_natAbs _ _) ?_
  have h1 : (2 * t + b).natAbs ≤ 2 * t.natAbs + b.natAbs := by omega
  have e3 : ∀ m : Nat, 2 ^ (m + 3) = 2 ^ m * 8 := fun m => Nat.pow_add 2 m 3
  have e : 2 ^ 910003 = 2 ^ 910000 * 8 := by
    rw [show (910003 : Nat) = 910000 + 3 from rfl]
    exact e3 _
  have hb := up hb (show 4000 ≤ 910000 by omega)
  rw [e]
  generalize 2 ^ 910000 = N at *
  omega
section
variable {P : Program} {w : World} {K : PySem.W.Frag} {mg : Str → Option Value} {base : Heap}
theorem sc_downward : FnScope ["top", "bottom"] ["top", "bottom"] (defScope s_downward) := ⟨rfl, rfl, rfl, by decide +kernel, rfl, by decide +kernel, by decide +kernel⟩
theorem ok_downward {f : Addr} {fd : FuncData} {k : Nat} (F : Fun K "downward" "downward" s_downward f fd) : FnOk P w K mg base CX0 (k + 1) f fd ["top", "bottom"] (spRnd fDown) := by
  refine F.ok sc_downward (fun vs H Q E h => ?_) (fun cdv A outer s H vs Q E hr h => ?_)
  · obtain ⟨t, b, rfl, _⟩ := h
    rfl
  · obtain ⟨t, b, rfl, hb, ht, hl, q⟩ := h
    refine ⟨_, (pss_one (ps_ret (pe_op op_fdivW (pv 0) (pv 1)))), ?_⟩
    exact ⟨_, rfl, _, rfl, _, _, rfl, rfl, wide_div hb hl (by decide) (by decide), q⟩
theorem sc_upward : FnScope ["top", "bottom"] ["top", "bottom"] (defScope s_upward) := ⟨rfl, rfl, rfl, by decide +kernel, rfl, by decide +kernel, by decide +kernel⟩
theorem ok_upward {f : Addr} {fd : FuncData} {k : Nat} (F : Fun K "upward" "upward" s_upward f fd) : FnOk P w K mg base CX0 (k + 1) f fd ["top", "bottom"] (spRnd fUp) := by
  refine F.ok sc_upward (fun vs H Q E h => ?_) (fun cdv A outer s H vs Q E hr h => ?_)
  · obtain ⟨t, b, rfl, _⟩ := h
    rfl
  · obtain ⟨t, b, rfl, hb, ht, hl, q⟩ := h
    refine ⟨_, (pss_one (ps_ret (pe_un un_neg (pe_op op_fdivW (pe_un un_neg (pv 0)) (pv 1))))), ?_⟩
    exact ⟨_, rfl, _, rfl, _, rfl, _, _, rfl, rfl, wide_div hb hl (by decide) (by decide), _, rfl, q⟩
theorem sc_inward : FnScope ["top", "bottom"] ["top", "bottom"] (defScope s_inward) := ⟨rfl, rfl, rfl, by decide +kernel, rfl, by decide +kernel, by decide +kernel⟩
theorem ok_inward {f : Addr} {fd : FuncData} (F : Fun K "inward" "inward" s_inward f fd) (c_downward : Cal P w K mg base 1 "downward" ["top", "bottom"] (spRnd fDown)) (c_upward : Cal P w K mg base 1 "upward" ["top", "bottom"] (spRnd fUp)) : FnOk P w K mg base CX0 2 f fd ["top", "bottom"] (spRnd fIn) := by
  refine F.ok sc_inward (fun vs H Q E h => ?_) (fun cdv A outer s H vs Q E hr h => ?_)
  · obtain ⟨t, b, rfl, _⟩ := h
    rfl
  · obtain ⟨t, b, rfl, hb, ht, hl, q⟩ := h
    refine ⟨_, (pss_one (ps_ret (pe_ifExp (pt_cmpR op_gt (pv 0) pe_int (nomark _)) (pe_cal c_downward hr (pa_cons (pv 0) (pa_cons (pv 1) pa_nil))) (pe_cal c_upward hr (pa_cons (pv 0) (pa_cons (pv 1) pa_nil)))))), ?_⟩
    refine ⟨_, rfl, _, _, rfl, rfl, _, rfl, ite2 (fun c => ?_) (fun c => ?_)⟩
    · refine ⟨_, rfl, _, rfl, t, b, rfl, hb, ht, hl, ?_⟩
      have hc : t > 0 := toB c
      unfold fIn at q
      rw [if_pos hc] at q
      exact q
    · refine ⟨_, rfl, _, rfl, t, b, rfl, hb, ht, hl, ?_⟩
      have hc : ¬ t > 0 := toNB c
      unfold fIn at q
      rw [if_neg hc] at q
      exact q
theorem sc_outward : FnScope ["top", "bottom"] ["top", "bottom"] (defScope s_outward) := ⟨rfl, rfl, rfl, by decide +kernel, rfl, by decide +kernel, by decide +kernel⟩
theorem ok_outward {f : Addr} {fd : FuncData} (F : Fun K "outward" "outward" s_outward f fd) (c_downward : Cal P w K mg base 1 "downward" ["top", "bottom"] (spRnd fDown)) (c_upward : Cal P w K mg base 1 "upward" ["top", "bottom"] (spRnd fUp)) : FnOk P w K mg base CX0 2 f fd ["top", "bottom"] (spRnd fOut) := by
  refine F.ok sc_outward (fun vs H Q E h => ?_) (fun cdv A outer s H vs Q E hr h => ?_)
  · obtain ⟨t, b, rfl, _⟩ := h
    rfl
  · obtain ⟨t, b, rfl, hb, ht, hl, q⟩ := h
    refine ⟨_, (pss_one (ps_ret (pe_ifExp (pt_cmpR op_gt (pv 0) pe_int (nomark _)) (pe_cal c_upward hr (pa_cons (pv 0) (pa_cons (pv 1) pa_nil))) (pe_cal c_downward hr (pa_cons (pv 0) (pa_cons (pv 1) pa_nil)))))), ?_⟩
    refine ⟨_, rfl, _, _, rfl, rfl, _, rfl, ite2 (fun c => ?_) (fun c => ?_)⟩
    · refine ⟨_, rfl, _, rfl, t, b, rfl, hb, ht, hl, ?_⟩
      have hc : t > 0 := toB c
      unfold fOut at q
      rw [if_pos hc] at q
      exact q
    · refine ⟨_, rfl, _, rfl, t, b, rfl, hb, ht, hl, ?_⟩
      have hc : ¬ t > 0 := toNB c
      unfold fOut at q
      rw [if_neg hc] at q
      exact q
theorem sc_nearest_greater : FnScope ["top", "bottom"] ["top", "bottom"] (defScope s_nearest_greater) := ⟨rfl, rfl, rfl, by decide +kernel, rfl, by decide +kernel, by decide +kernel⟩
theorem ok_nearest_greater {f : Addr} {fd : FuncData} {k : Nat} (F : Fun K "nearest_greater" "nearest_greater" s_nearest_greater f fd) : FnOk P w K mg base CX0 (k + 1) f fd ["top", "bottom"] (spRnd fHalf) := by
  refine F.ok sc_nearest_greater (fun vs H Q E h => ?_) (fun cdv A outer s H vs Q E hr h => ?_)
  · obtain ⟨t, b, rfl, _⟩ := h
    rfl
  · obtain ⟨t, b, rfl, hb, ht, hl, q⟩ := h
    refine ⟨_, (pss_one (ps_ret (pe_op op_fdivW (pe_op op_add (pe_op op_mul pe_int (pv 0)) (pv 1)) (pe_op op_mul pe_int (pv 1))))), ?_⟩
    exact ⟨_, rfl, _, _, rfl, rfl, .inl ⟨by decide, by decide⟩, _, rfl, _, _, rfl, rfl, _, rfl, _, _, rfl, rfl, .inl ⟨by decide, by decide⟩, _, _, rfl, rfl, wide_div (by omega) (two_b hl) (by decide) (by decide), q⟩
theorem sc_nearest_even : FnScope ["top", "bottom", "near", "halfway"] ["top", "bottom"] (defScope s_nearest_even) := ⟨rfl, rfl, rfl, by decide +kernel, rfl, by decide +kernel, by decide +kernel⟩
theorem ok_nearest_even {f : Addr} {fd : FuncData} (F : Fun K "nearest_even" "nearest_even" s_nearest_even f fd) (c_nearest_greater : Cal P w K mg base 1 "nearest_greater" ["top", "bottom"] (spRnd fHalf)) : FnOk P w K mg base CX0 2 f fd ["top", "bottom"] (spRnd fEven) := by
  refine F.ok sc_nearest_even (fun vs H Q E h => ?_) (fun cdv A outer s H vs Q E hr h => ?_)
  · obtain ⟨t, b, rfl, _⟩ := h
    rfl
  · obtain ⟨t, b, rfl, hb, ht, hl, q⟩ := h
    have hn := half_le ht hl
    refine ⟨_, (pss_cons (ps_set (i := 2) sc_nearest_even.nd rfl (.inl rfl) (pe_cal c_nearest_greater hr (pa_cons (pv 0) (pa_cons (pv 1) pa_nil))))
      (pss_cons (ps_set (i := 3) sc_nearest_even.nd rfl (.inl rfl) (pe_cmpR op_eq (pe_op op_mul pe_int (pe_op op_sub (pe_op op_mulW (pv 2) (pv 1)) (pv 0))) (pv 1) (nomark _)))
      (pss_one (ps_ret (pe_ifExp (PW.pt (pw_and (pt_val (pv 3)) (pw_and1 (pt_truth (pe_op op_and (pv 2) pe_int) (by intro _; rfl))))) (pe_op op_sub (pv 2) pe_int) (pv 2)))))), ?_⟩
    refine ⟨_, rfl, _, rfl, t, b, rfl, hb, ht, hl, ?_⟩
    unfold fEven at q
    generalize fHalf t b = n at *
    refine ⟨_, rfl, _, rfl, _, _, rfl, rfl, wide_mul hn hl (by decide) (by decide) (by decide), _, rfl, _, _, rfl, rfl, _, _, rfl, rfl, .inl ⟨by decide, by decide⟩, _, rfl, rfl, ?_⟩
    have eB : (decide (V.int (2 * (n * b - t)) = V.int b)) = decide (2 * (n * b - t) = b) := by
      by_cases h : 2 * (n * b - t) = b
      · rw [h, decide_eq_true rfl, decide_eq_true rfl]
      · rw [decide_eq_false h, decide_eq_false (fun z => h (V.int.inj z))]
    rw [eB]
    by_cases hc : 2 * (n * b - t) = b
    · rw [decide_eq_true hc]
      refine ⟨_, rfl, _, rfl, iteT ⟨_, rfl, _, _, rfl, rfl, _, rfl, ?_⟩⟩
      rw [PyProof.Rows.bitAnd_m1]
      by_cases h2 : n % 2 ≠ 0
      · have e : (n % 2 != 0) = true := by
          rw [bne_iff_ne]
          exact h2
        rw [e]
        rw [if_pos ⟨hc, h2⟩] at q
        exact iteT ⟨_, rfl, _, _, rfl, rfl, q⟩
      · have e : (n % 2 != 0) = false := by
          have : n % 2 = 0 := by omega
          rw [this]
          rfl
        rw [e]
        rw [if_neg (fun z => h2 z.2)] at q
        exact iteF ⟨_, rfl, q⟩
    · rw [decide_eq_false hc]
      rw [if_neg (fun z => hc z.1)] at q
      exact ⟨_, rfl, _, rfl, iteF (iteF ⟨_, rfl, q⟩)⟩
theorem sc_nearest_far : FnScope ["top", "bottom"] ["top", "bottom"] (defScope s_nearest_far) := ⟨rfl, rfl, rfl, by decide +kernel, rfl, by decide +kernel, by decide +kernel⟩
theorem ok_nearest_far {f : Addr} {fd : FuncData} (F : Fun K "nearest_far" "nearest_far" s_nearest_far f fd) (c_nearest_greater : Cal P w K mg base 1 "nearest_greater" ["top", "bottom"] (spRnd fHalf)) : FnOk P w K mg base CX0 2 f fd ["top", "bottom"] (spRnd fFar) := by
  refine F.ok sc_nearest_far (fun vs H Q E h => ?_) (fun cdv A outer s H vs Q E hr h => ?_)
  · obtain ⟨t, b, rfl, _⟩ := h
    rfl
  · obtain ⟨t, b, rfl, hb, ht, hl, q⟩ := h
    refine ⟨_, (pss_one (ps_ret (pe_ifExp (pt_cmpR op_gt (pv 0) pe_int (nomark _)) (pe_cal c_nearest_greater hr (pa_cons (pv 0) (pa_cons (pv 1) pa_nil))) (pe_un un_neg (pe_cal c_nearest_greater hr (pa_cons (pe_un un_neg (pv 0)) (pa_cons (pv 1) pa_nil))))))), ?_⟩
    refine ⟨_, rfl, _, _, rfl, rfl, _, rfl, ite2 (fun c => ?_) (fun c => ?_)⟩
    · refine ⟨_, rfl, _, rfl, t, b, rfl, hb, ht, hl, ?_⟩
      have hc : t > 0 := toB c
      unfold fFar at q
      rw [if_pos hc] at q
      exact q
    · refine ⟨_, rfl, _, rfl, _, rfl, -t, b, rfl, hb, by rw [Int.natAbs_neg]; exact ht, hl, _, rfl, ?_⟩
      have hc : ¬ t > 0 := toNB c
      unfold fFar at q
      rw [if_neg hc] at q
      exact q
theorem sc_is_manner : FnScope ["thing"] ["thing"] (defScope s_is_manner) := ⟨rfl, rfl, rfl, by decide +kernel, rfl, by decide +kernel, by decide +kernel⟩
theorem ok_is_manner {f : Addr} {fd : FuncData} {k : Nat} {dM : Addr} {es : Array DictEntry} {n : Nat} (M : Mans P w K mg base dM es n) (F : Fun K "is_manner" "is_manner" s_is_manner f fd) (z : Zs mg) : FnOk P w K mg base CX0 (k + 1) f fd ["thing"] (spManner K dM) := by
  refine F.ok sc_is_manner (fun vs H Q E h => ?_) (fun cdv A outer s H vs Q E hr h => ?_)
  · obtain ⟨x, b, rfl, _⟩ := h
    rfl
  · obtain ⟨x, b, rfl, hm, q⟩ := h
    refine ⟨_, (pss_one (ps_ret (pe_and (pe_callB call_isi (by rfl) z.isinstance (by decide +kernel) (pa_cons (pv 0) (pa_cons (pe_bltn (v := .ty "str") (by rfl) z.str (by decide +kernel) rfl) pa_nil))) (pe_one (pe_cmpR (op_in_kd M.D) (pv 0) (pe_glob (v := .ref dM) (by rfl) M.gm rfl) (by rfl)))))), ?_⟩
    rcases hm with ⟨m, rfl, rfl⟩ | ⟨y, rfl, ny, rfl⟩ | ⟨rfl, t, ty, kt⟩
    · obtain ⟨fm, fdm, h1, _⟩ := M.at_ m
      exact ⟨_, rfl, _, .ty "str", _, _, true, rfl, .ty _, .base (.str _), kit_ty (by decide +kernel), _, rfl, iteT ⟨_, rfl, _, _, rfl, rfl, h1, q⟩⟩
    · exact ⟨_, rfl, _, .ty "str", _, _, true, rfl, .ty _, .base (.str _), kit_ty (by decide +kernel), _, rfl, iteT ⟨_, rfl, _, _, rfl, rfl, ny, q⟩⟩
    · exact ⟨_, rfl, _, .ty "str", _, _, false, rfl, .ty _, ty, kit_ty kt, _, rfl, iteF q⟩
theorem sc_rounded : FnScope ["value", "manner", "top", "bottom", "rule"] ["value", "manner"] (defScope s_rounded) := ⟨rfl, rfl, rfl, by decide +kernel, rfl, by decide +kernel, by decide +kernel⟩
theorem ok_rounded {f : Addr} {fd : FuncData} {dvs : List V} {dM : Addr} {es : Array DictEntry} {n : Nat} (M : Mans P w K mg base dM es n) (F : FunD K "rounded" "rounded" (defArgs s_rounded) (defBody s_rounded) (defScope s_rounded) dvs [] f fd) (c_is_manner : Cal P w K mg base 1 "is_manner" ["thing"] (spManner K dM)) : FnOk P w K mg base CX0 3 f fd ["value", "manner"] (spRounded K) := by
  refine F.ok sc_rounded (fun vs H Q E h => ?_) (fun cdv A outer s H vs Q E hr h => ?_)
  · obtain ⟨a, m, t, b, rfl, _⟩ := h
    rfl
  · obtain ⟨a, m, t, b, rfl, ha, hb, ht, hl, q⟩ := h
    obtain ⟨fm, fdm, h1, hK, hB, hF⟩ := M.at_ m
    refine ⟨_, PSs.nox (pss_cons (ps_if (pt_not (pt_val (pe_cal c_is_manner hr (pa_cons (pv 1) pa_nil)))) (pss_one ps_never) pss_nil)
      (pss_cons (ps_asg (pv 0) (pg_tup (by rfl) (pgs_cons (pg_name (i := 2) sc_rounded.nd rfl (.inl rfl)) (pgs_cons (pg_name (i := 3) sc_rounded.nd rfl (.inl rfl)) pgs_nil))))
      (pss_cons (ps_set (i := 4) sc_rounded.nd rfl (.inl rfl) (pe_ix ix_kdict (pe_glob (v := .ref dM) (by rfl) M.gm rfl) (pv 1) (fun _ _ => rfl)))
      (pss_one (ps_ret (pe_callL (i := 4) hF hr rfl (Or.inl rfl) hK hB .nil pass0 (pa_cons (pv 2) (pa_cons (pv 3) pa_nil)))))))), ?_⟩
    refine ⟨_, rfl, _, true, rfl, .inl ⟨m, rfl, rfl⟩, _, rfl, iteF ?_⟩
    refine ⟨_, rfl, a, _, rfl, ha, rfl, _, _, rfl, _, _, rfl, rfl, ?_⟩
    refine ⟨_, rfl, dM, m.str, .ref fm, rfl, rfl, ⟨es, n, _, M.D.at_, M.D.lit, h1, rfl⟩, ?_⟩
    exact ⟨rfl, _, rfl, _, rfl, t, b, rfl, hb, ht, hl, q⟩
end
end E1

namespace E1
open PySem PySem.Spec PyProof.Rows L2
abbrev s_Form___init__ : Stmt := inClass (topS 36) 0
abbrev s_Form_least : Stmt := inClass (topS 36) 1
abbrev s_Form_greatest : Stmt := inClass (topS 36) 2
abbrev s_Form_has : Stmt := inClass (topS 36) 3
abbrev s_Form_step : Stmt := inClass (topS 36) 4
abbrev s_Form_slack : Stmt := inClass (topS 36) 5
abbrev s_Form_value : Stmt := inClass (topS 36) 6
abbrev s_Form_word_for : Stmt := inClass (topS 36) 7
abbrev s_Form_ended : Stmt := inClass (topS 36) 8
abbrev s_Form_kept : Stmt := inClass (topS 36) 9
abbrev s_Form_kept_at : Stmt := inClass (topS 36) 10
abbrev s_Form_bits : Stmt := inClass (topS 36) 11
abbrev s_Form_is_bits : Stmt := inClass (topS 36) 12
abbrev s_Form_word_of : Stmt := inClass (topS 36) 13
abbrev s_Form_added : Stmt := inClass (topS 36) 14
abbrev s_Form___eq__ : Stmt := inClass (topS 36) 15
abbrev s_Form___str__ : Stmt := inClass (topS 36) 16
abbrev s_Form___repr__ : Stmt := inClass (topS 36) 17

/-! ### objects: methods, making -/
def CalM (P : Program) (w : World) (K : PySem.W.Frag) (mg : Str → Option Value) (base : Heap) (k : Nat) (C : Addr) (m : Str) (ps : List Str) (sp : Sp) : Prop :=
  ∃ (f : Addr) (fd : FuncData), Meth K C m f ∧ Binds K fd ps [] ∧ FnOk P w K mg base CX0 k f fd ps sp
def CalMK (P : Program) (w : World) (K : PySem.W.Frag) (mg : Str → Option Value) (base : Heap) (k : Nat) (C : Addr) (m : Str) (ps ks : List Str) (gV : List V → List V → List V) (sp : Sp) : Prop :=
  ∃ (f : Addr) (fd : FuncData) (g : List Value → List Value → List Value), Meth K C m f ∧ KBn K fd ps 1 ks g gV ∧ FnOk P w K mg base CX0 k f fd ps sp
def CalC (P : Program) (w : World) (K : PySem.W.Frag) (mg : Str → Option Value) (base : Heap) (k : Nat) (x : Str) (C : Addr) (ps : List Str) (dvs : List V) (sp : Sp) : Prop :=
  ∃ (f : Addr) (fd : FuncData) (ds : List Value), Mk K C f ∧ mg x = some (.ref C) ∧ Vals dvs ds ∧ Binds K fd ps ds ∧ FnOk P w K mg base CX0 k f fd ps sp
section
variable {X : Cx} {k j : Nat} {C : Addr} {m x : Str} {ps ks : List Str} {dvs : List V} {sp : Sp} {o e : Expr} {es : List Expr} {ta : TE} {t tk : TA} {apos p pos : Pos} {gV : List V → List V → List V} {kws : List Keyword}
theorem pe_calm {pl : Sem Bool} (he : PE X o ta) (c : Cls X.K C) (h : CalM X.prog X.w X.K X.mg X.base k C m ps sp) (hr : Room j X.A) (ha : PA X (e :: es) t) (hle : k ≤ j := by decide)
    (hst : starEach (e :: es) X.env = (false, eval e X.env) :: starEach es X.env := by rfl) (hpl : (backTo pos (starEach es X.env)).any (·.1) = false := by rfl)
    (ht : eval (.Call (.Attribute o m apos) (e :: es) [] pos) X.env = (do
      let ov ← eval o X.env
      standAt apos.atName
      let (f, first) ← holding [ov] (getMethod ov m pl)
      callWith pos f first (backTo pos (starEach (e :: es) X.env)) (backToKw pos (keywordEach [] X.env))) := by rfl) :
    PE X (.Call (.Attribute o m apos) (e :: es) [] pos) (tMeth C m sp [] E0 ta t) := by
  obtain ⟨f, fd, h1, h2, h3⟩ := h
  exact pe_meth he c h1 h3 (hr.mono hle) h2 .nil pass0 ha hst hpl ht
theorem pe_calm0 {pl : Sem Bool} (he : PE X o ta) (c : Cls X.K C) (h : CalM X.prog X.w X.K X.mg X.base k C m ps sp) (hr : Room j X.A) (hle : k ≤ j := by decide)
    (ht : eval (.Call (.Attribute o m apos) [] [] pos) X.env = (do
      let ov ← eval o X.env
      standAt apos.atName
      let (f, first) ← holding [ov] (getMethod ov m pl)
      callWith pos f first (backTo pos (starEach [] X.env)) (backToKw pos (keywordEach [] X.env))) := by rfl) :
    PE X (.Call (.Attribute o m apos) [] [] pos) (tMeth C m sp [] E0 ta tNil) := by
  obtain ⟨f, fd, h1, h2, h3⟩ := h
  exact pe_meth0 he c h1 h3 (hr.mono hle) h2 .nil pass0 ht
def tMethK (C : Addr) (m : Str) (n : Nat) (sp : Sp) (gV : List V → List V → List V) (ta : TE) (tk : TA) : TE := fun σ H Q => ta σ H fun x H1 => ∃ a dx fs, x = .ref a ∧ H1 a = some (.ins C dx fs) ∧ fs.lookup m = none ∧
  tk σ H1 fun zs H2 => zs.length = n ∧ sp (gV [x] zs) H2 Q E0
theorem pe_calmk0 {pl : Sem Bool} (he : PE X o ta) (c : Cls X.K C) (h : CalMK X.prog X.w X.K X.mg X.base k C m ps ks gV sp) (hr : Room j X.A) (hkw : PK X kws tk) (hle : k ≤ j := by decide)
    (hall : (backToKw pos (keywordEach kws X.env)).all (·.1.isSome) = true := by rfl) (hks : (backToKw pos (keywordEach kws X.env)).filterMap (·.1) = ks := by rfl)
    (hpl : ((backTo pos (starEach [] X.env)).any (·.1) || (backToKw pos (keywordEach kws X.env)).any (·.1.isNone)) = false := by rfl)
    (ht : eval (.Call (.Attribute o m apos) [] kws pos) X.env = (do
      let ov ← eval o X.env
      standAt apos.atName
      let (f, first) ← holding [ov] (getMethod ov m pl)
      callWith pos f first (backTo pos (starEach [] X.env)) (backToKw pos (keywordEach kws X.env))) := by rfl) :
    PE X (.Call (.Attribute o m apos) [] kws pos) (tMethK C m ks.length sp gV ta tk) := by
  obtain ⟨f, fd, g, hm, hb, F⟩ := h
  refine ⟨fun pins s σ H Q I h => ?_⟩
  refine PySem.W.methodCall_KW (pl := pl) (thn (he.run pins s σ H _ I h) fun u s1 ⟨x, H1, I1, rx, a, dx, fs, ex, ea, l, q⟩ => ?_) ht
  subst ex
  obtain rfl : u = Value.ref a := rx
  refine getmeth_ok I1 ea c hm l ?_
  refine PySem.W.callWith_KW0 (first := [.ref a]) (h₀ := X.base) I.ok.mod.kin hm.kp hall (thn (hkw.run pos pins s1 σ H1 _ I1 q) fun ws s2 ⟨zs, H2, I2, rz, l2, q2⟩ => ⟨I2.kIn, ?_⟩) hpl
  rw [hks]
  exact run_fnN (vs := [.ref a]) (us := [.ref a]) F (hr.mono hle) hb pass0 I2 (.cons rfl .nil) rz rfl l2 q2
theorem pe_calc (h : CalC X.prog X.w X.K X.mg X.base k x C ps dvs sp) (hr : Room j X.A) (ha : PA X (e :: es) t) (hle : k + 1 ≤ j := by decide) (hg : Gl X x := by rfl)
    (hdb : (x == ("__debug__" : Str)) = false := by decide) (he : starEach (e :: es) X.env = (false, eval e X.env) :: starEach es X.env := by rfl) (hpl : (backTo pos (starEach es X.env)).any (·.1) = false := by rfl) :
    PE X (.Call (.Name x p) (e :: es) [] pos) (tMake C sp dvs E0 t) := by
  obtain ⟨f, fd, ds, h1, h2, h3, h4, h5⟩ := h
  exact pe_make h1 h5 (hr.mono hle) hg h2 h4 h3 pass0 ha hdb he hpl
end
/-! ### forms -/
def wV : Option Int → V
  | none => .non
  | some w => .int w
def endS : Bool → Str
  | true => "stop"
  | false => "wrap"
def flds (w : Option Int) (pt : Int) (m : Mn) (st : Bool) : List (Str × V) := [("width", wV w), ("point", .int pt), ("manner", .str m.str), ("ends", .str (endS st))]
def WOk (w : Option Int) : Prop := ∀ x, w = some x → 2 ≤ x ∧ x ≤ 64
structure FormAt (C : Addr) (H : Hp) (p : Addr) (w : Option Int) (pt : Int) (m : Mn) (st : Bool) : Prop where
  ob : ∃ dx, H p = some (.ins C dx (flds w pt m st))
  wo : WOk w
  p0 : -64 ≤ pt
  p1 : pt ≤ 64
theorem FormAt.same {C : Addr} {H H' : Hp} {p : Addr} {w : Option Int} {pt : Int} {m : Mn} {st : Bool} (f : FormAt C H p w pt m st) (s : Same H H') : FormAt C H' p w pt m st := by
  obtain ⟨⟨dx, h⟩, a, b, c⟩ := f
  exact ⟨⟨dx, s _ _ h⟩, a, b, c⟩
theorem nPW : (("point" : Str) == "width") = false := by decide +kernel
theorem nMW : (("manner" : Str) == "width") = false := by decide +kernel
theorem nMP : (("manner" : Str) == "point") = false := by decide +kernel
theorem nEW : (("ends" : Str) == "width") = false := by decide +kernel
theorem nEP : (("ends" : Str) == "point") = false := by decide +kernel
theorem nEM : (("ends" : Str) == "manner") = false := by decide +kernel
section
variable {w : Option Int} {pt : Int} {m : Mn} {st : Bool}
theorem fl_w : (flds w pt m st).lookup ("width" : Str) = some (wV w) := by
  unfold flds
  rw [List.lookup_cons, beq_self_eq_true]
theorem fl_p : (flds w pt m st).lookup ("point" : Str) = some (.int pt) := by
  unfold flds
  rw [List.lookup_cons, nPW, List.lookup_cons, beq_self_eq_true]
theorem fl_m : (flds w pt m st).lookup ("manner" : Str) = some (.str m.str) := by
  unfold flds
  rw [List.lookup_cons, nMW, List.lookup_cons, nMP, List.lookup_cons, beq_self_eq_true]
theorem fl_e : (flds w pt m st).lookup ("ends" : Str) = some (.str (endS st)) := by
  unfold flds
  rw [List.lookup_cons, nEW, List.lookup_cons, nEP, List.lookup_cons, nEM, List.lookup_cons, beq_self_eq_true]
theorem fl_no {x : Str} (h : [(x == "width"), (x == "point"), (x == "manner"), (x == "ends")] = [false, false, false, false]) : (flds w pt m st).lookup x = none := by
  have h1 : (x == "width") = false := (List.cons.inj h).1
  have h2 : (x == "point") = false := (List.cons.inj (List.cons.inj h).2).1
  have h3 : (x == "manner") = false := (List.cons.inj (List.cons.inj (List.cons.inj h).2).2).1
  have h4 : (x == "ends") = false := (List.cons.inj (List.cons.inj (List.cons.inj (List.cons.inj h).2).2).2).1
  unfold flds
  rw [List.lookup_cons, h1, List.lookup_cons, h2, List.lookup_cons, h3, List.lookup_cons, h4]
  rfl
theorem ne_of_beq {a b : Str} (h : (b == a) = false) : ¬ a = b := fun e => by
  rw [e, beq_self_eq_true] at h
  cases h
theorem fl_put {a b c d : V} : putF "ends" d (putF "manner" c (putF "point" b (putF "width" a []))) = [(("width" : Str), a), ("point", b), ("manner", c), ("ends", d)] := by
  simp only [putF, if_neg (ne_of_beq nPW), if_neg (ne_of_beq nMW), if_neg (ne_of_beq nMP), if_neg (ne_of_beq nEW), if_neg (ne_of_beq nEP), if_neg (ne_of_beq nEM)]
end
/-- what the walk asks of the class and of the module's constants -/
structure FTxt (K : PySem.W.Frag) (mg : Str → Option Value) (C : Addr) : Prop where
  cl : Cls K C
  nW : NoAttr K C "width"
  nP : NoAttr K C "point"
  nM : NoAttr K C "manner"
  nE : NoAttr K C "ends"
structure FCst (K : PySem.W.Frag) (mg : Str → Option Value) (aE : Addr) : Prop where
  lw : ∃ t, mg "LEAST_WIDTH" = some (.int 2 t)
  gw : ∃ t, mg "GREATEST_WIDTH" = some (.int 64 t)
  gp : ∃ t, mg "GREATEST_POINT" = some (.int 64 t)
  e : mg "ENDS" = some (.ref aE)
  eT : ∀ H, SqT K H aE [.str "wrap", .str "stop"]
def two (n : Int) : Int := 2 ^ n.toNat
def lst (x : Int) : Int := -(two (x - 1))
def grt (x : Int) : Int := two (x - 1) - 1
def lstV : Option Int → V
  | none => .non
  | some x => .int (lst x)
def grtV : Option Int → V
  | none => .non
  | some x => .int (grt x)
def inR : Option Int → Int → Bool
  | none, _ => true
  | some x, n => decide (lst x ≤ n) && decide (n ≤ grt x)
def nearB : Mn → Bool
  | .half => true
  | .even => true
  | .far => true
  | _ => false
/-- the word as which a whole number of steps is kept -/
def wordF (w : Option Int) (st : Bool) (n : Int) : Int := match w with
  | none => n
  | some x => if inR (some x) n = true then n else if st = true then (if n < 0 then lst x else grt x) else (n - lst x) % two x + lst x
def spWidth : Sp := fun vs H Q _ => ∃ w : Option Int, vs = [wV w] ∧ WOk w ∧ Q (.bl true) H
def spPoint : Sp := fun vs H Q _ => ∃ p : Int, vs = [.int p] ∧ -64 ≤ p ∧ p ≤ 64 ∧ Q (.bl true) H
def spEnds : Sp := fun vs H Q _ => ∃ st : Bool, vs = [.str (endS st)] ∧ Q (.bl true) H
def spInit (C : Addr) : Sp := fun vs H Q _ => ∃ (p dx : Addr) (w : Option Int) (pt : Int) (m : Mn) (st : Bool), vs = [.ref p, wV w, .int pt, .str m.str, .str (endS st)] ∧ WOk w ∧ -64 ≤ pt ∧ pt ≤ 64 ∧ H p = some (.ins C dx []) ∧
  ∀ H', FormAt C H' p w pt m st → (∀ b o, b ≠ p → H b = some o → H' b = some o) → (∀ b, b ≠ p → H b = none → H' b = none) → Q .non H'
def spF (C : Addr) (r : Option Int → Int → Mn → Bool → Hp → VK → Prop) : Sp := fun vs H Q _ => ∃ (p : Addr) (w : Option Int) (pt : Int) (m : Mn) (st : Bool), vs = [.ref p] ∧ FormAt C H p w pt m st ∧ r w pt m st H Q
def spLeast (C : Addr) : Sp := spF C fun w _ _ _ H Q => Q (lstV w) H
def spGreatest (C : Addr) : Sp := spF C fun w _ _ _ H Q => Q (grtV w) H
def spStep (C : Addr) : Sp := spF C fun _ pt _ _ H Q => ∀ p, H p = none → Q (.ref p) (upd H p (.tup [.int (twoT (-pt)), .int (twoB (-pt))]))
def spSlack (C : Addr) : Sp := spF C fun _ _ m _ H Q => ∀ p, H p = none → Q (.ref p) (upd H p (.tup [.int 1, .int (if nearB m = true then 2 else 1)]))
def spHas (K : PySem.W.Frag) (C : Addr) : Sp := fun vs H Q _ => ∃ (p : Addr) (w : Option Int) (pt : Int) (m : Mn) (st : Bool) (x : V) (b : Bool), vs = [.ref p, x] ∧ FormAt C H p w pt m st ∧ ((∃ n, x = .int n ∧ b = inR w n) ∨ (WholeIs K H x false ∧ b = false)) ∧ Q (.bl b) H
def spWord (C : Addr) : Sp := fun vs H Q _ => ∃ (p : Addr) (w : Option Int) (pt : Int) (m : Mn) (st : Bool) (n : Int), vs = [.ref p, .int n] ∧ FormAt C H p w pt m st ∧ Q (.int (wordF w st n)) H
/-- how many steps a value is, rounded -/
def steps (pt : Int) (m : Mn) (t b : Int) : Int := m.f (lowT (t * twoB (-pt)) (b * twoT (-pt))) (lowB (t * twoB (-pt)) (b * twoT (-pt)))
def spKept (K : PySem.W.Frag) (C : Addr) : Sp := fun vs H Q _ => ∃ (p : Addr) (w : Option Int) (pt : Int) (m : Mn) (st : Bool) (a : Addr) (t b : Int), vs = [.ref p, .ref a] ∧ FormAt C H p w pt m st ∧ SqT K H a [.int t, .int b] ∧ 0 < b ∧ t.natAbs < 2 ^ 1500 ∧ b.natAbs < 2 ^ 1500 ∧
  ∀ (r : Addr) (H' : Hp), H r = none → Same H H' → H' r = some (.tup [.int (wordF w st (steps pt m t b)), .int (steps pt m t b - wordF w st (steps pt m t b))]) → Q (.ref r) H'
theorem two_pos (n : Int) : 0 < two n := by
  unfold two
  exact Int.pow_pos (by decide)
theorem twoT_pos (n : Int) : 0 < twoT n := by
  unfold twoT
  split
  · decide
  · exact Int.pow_pos (by decide)
theorem twoB_pos (n : Int) : 0 < twoB n := by
  unfold twoB
  split
  · exact Int.pow_pos (by decide)
  · decide
theorem two_lt {n : Int} {k : Nat} (h : n.toNat < k) : (2 ^ n.toNat : Int).natAbs < 2 ^ k := by
  rw [Int.natAbs_pow]
  exact Nat.pow_lt_pow_right (by decide) h
theorem twoT_lt {n : Int} (h1 : n ≤ 64) : (twoT n).natAbs < 2 ^ 65 := by
  unfold twoT
  split
  · decide
  · exact two_lt (by omega)
theorem twoB_lt {n : Int} (h1 : -64 ≤ n) : (twoB n).natAbs < 2 ^ 65 := by
  unfold twoB
  split
  · exact two_lt (by omega)
  · decide
theorem low_pos' {t b : Int} (hb : b ≠ 0) : 0 < lowB t b := by
  have g0 := gI_pos (t := t) hb
  have g1 := gI_le (t := t) hb
  have : 1 ≤ lowB t b := by
    unfold lowB
    refine (Int.le_ediv_iff_mul_le g0).mpr ?_
    split <;> omega
  omega
theorem lowT_le {t b : Int} : (lowT t b).natAbs ≤ t.natAbs := by
  unfold lowT
  refine Nat.le_trans (Int.natAbs_ediv_le_natAbs _ _) ?_
  split <;> omega
theorem lowB_le {t b : Int} : (lowB t b).natAbs ≤ b.natAbs := by
  unfold lowB
  refine Nat.le_trans (Int.natAbs_ediv_le_natAbs _ _) ?_
  split <;> omega
section
variable {P : Program} {w : World} {K : PySem.W.Frag} {mg : Str → Option Value} {base : Heap}
theorem sc_is_width : FnScope ["thing"] ["thing"] (defScope s_is_width) := ⟨rfl, rfl, rfl, by decide +kernel, rfl, by decide +kernel, by decide +kernel⟩
theorem ok_is_width {f : Addr} {fd : FuncData} {aE : Addr} (Z : FCst K mg aE) (F : Fun K "is_width" "is_width" s_is_width f fd) (c_is_whole : Cal P w K mg base 1 "is_whole" ["thing"] (spWhole K)) : FnOk P w K mg base CX0 2 f fd ["thing"] spWidth := by
  refine F.ok sc_is_width (fun vs H Q E h => ?_) (fun cdv A outer s H vs Q E hr h => ?_)
  · obtain ⟨w, rfl, _⟩ := h
    rfl
  · obtain ⟨w, rfl, hw, q⟩ := h
    obtain ⟨_, gLW⟩ := Z.lw
    obtain ⟨_, gGW⟩ := Z.gw
    refine ⟨_, (pss_one (ps_ret (pe_or (pe_cmpR op_isN (pv 0) pe_non (nomark _)) (pe_one (pe_and (pe_cal c_is_whole hr (pa_cons (pv 0) pa_nil)) (pe_one (pe_chain op_le op_le (pe_glob (v := .int 2) (by rfl) gLW ⟨_, rfl⟩) (pv 0) (pe_glob (v := .int 64) (by rfl) gGW ⟨_, rfl⟩)))))))), ?_⟩
    cases w with
    | none => exact ⟨_, rfl, rfl, _, rfl, iteT q⟩
    | some x =>
      obtain ⟨h1, h2⟩ := hw x rfl
      refine ⟨_, rfl, rfl, _, rfl, iteF ⟨_, rfl, _, _, rfl, .int x, _, rfl, iteT ⟨_, rfl, _, _, rfl, rfl, _, rfl, ?_⟩⟩⟩
      rw [decide_eq_true h1]
      refine iteT ⟨_, _, rfl, rfl, ?_⟩
      show Q (.bl (decide (x ≤ 64))) H
      rw [decide_eq_true h2]
      exact q
theorem sc_is_point : FnScope ["thing"] ["thing"] (defScope s_is_point) := ⟨rfl, rfl, rfl, by decide +kernel, rfl, by decide +kernel, by decide +kernel⟩
theorem ok_is_point {f : Addr} {fd : FuncData} {aE : Addr} (Z : FCst K mg aE) (F : Fun K "is_point" "is_point" s_is_point f fd) (z : Zs mg) (c_is_whole : Cal P w K mg base 1 "is_whole" ["thing"] (spWhole K)) : FnOk P w K mg base CX0 2 f fd ["thing"] spPoint := by
  refine F.ok sc_is_point (fun vs H Q E h => ?_) (fun cdv A outer s H vs Q E hr h => ?_)
  · obtain ⟨x, rfl, _⟩ := h
    rfl
  · obtain ⟨x, rfl, h1, h2, q⟩ := h
    obtain ⟨_, gGP⟩ := Z.gp
    refine ⟨_, (pss_one (ps_ret (pe_and (pe_cal c_is_whole hr (pa_cons (pv 0) pa_nil)) (pe_one (pe_cmpR op_le (pe_callB call_abs (by rfl) z.abs (by decide +kernel) (pa_cons (pv 0) pa_nil)) (pe_glob (v := .int 64) (by rfl) gGP ⟨_, rfl⟩) (nomark _)))))), ?_⟩
    refine ⟨_, rfl, _, _, rfl, .int x, _, rfl, iteT ⟨_, rfl, _, rfl, _, _, rfl, rfl, ?_⟩⟩
    show Q (.bl (decide ((if x < 0 then -x else x) ≤ 64))) H
    rw [decide_eq_true (show (if x < 0 then -x else x) ≤ 64 by split <;> omega)]
    exact q
theorem sc_is_ends : FnScope ["thing"] ["thing"] (defScope s_is_ends) := ⟨rfl, rfl, rfl, by decide +kernel, rfl, by decide +kernel, by decide +kernel⟩
theorem ok_is_ends {f : Addr} {fd : FuncData} {k : Nat} {aE : Addr} (Z : FCst K mg aE) (F : Fun K "is_ends" "is_ends" s_is_ends f fd) (z : Zs mg) : FnOk P w K mg base CX0 (k + 1) f fd ["thing"] spEnds := by
  refine F.ok sc_is_ends (fun vs H Q E h => ?_) (fun cdv A outer s H vs Q E hr h => ?_)
  · obtain ⟨st, rfl, _⟩ := h
    rfl
  · obtain ⟨st, rfl, q⟩ := h
    refine ⟨_, (pss_one (ps_ret (pe_and (pe_callB call_isi (by rfl) z.isinstance (by decide +kernel) (pa_cons (pv 0) (pa_cons (pe_bltn (v := .ty "str") (by rfl) z.str (by decide +kernel) rfl) pa_nil))) (pe_one (pe_cmpR op_in_seq (pv 0) (pe_glob (v := .ref aE) (by rfl) Z.e rfl) (by rfl)))))), ?_⟩
    refine ⟨_, rfl, _, .ty "str", _, _, true, rfl, .ty _, .base (.str _), kit_ty (by decide +kernel), _, rfl, iteT ⟨_, rfl, aE, _, rfl, .inr (Z.eT _), rfl, rfl, ?_⟩⟩
    cases st with
    | true =>
      rw [show inV (V.str (endS true)) [V.str "wrap", V.str "stop"] = true by decide +kernel]
      exact q
    | false =>
      rw [show inV (V.str (endS false)) [V.str "wrap", V.str "stop"] = true by decide +kernel]
      exact q
theorem sc_Form___init__ : FnScope ["self", "width", "point", "manner", "ends"] ["self", "width", "point", "manner", "ends"] (defScope s_Form___init__) := ⟨rfl, rfl, rfl, by decide +kernel, rfl, by decide +kernel, by decide +kernel⟩
theorem ok_Form___init__ {f : Addr} {fd : FuncData} {dM : Addr} {dvs : List V} {C : Addr} (T : FTxt K mg C) (F : FunD K "__init__" "Form.__init__" (defArgs s_Form___init__) (defBody s_Form___init__) (defScope s_Form___init__) dvs [] f fd) (c_is_width : Cal P w K mg base 2 "is_width" ["thing"] spWidth) (c_is_point : Cal P w K mg base 2 "is_point" ["thing"] spPoint) (c_is_manner : Cal P w K mg base 1 "is_manner" ["thing"] (spManner K dM)) (c_is_ends : Cal P w K mg base 1 "is_ends" ["thing"] spEnds) : FnOk P w K mg base CX0 3 f fd ["self", "width", "point", "manner", "ends"] (spInit C) := by
  refine F.ok sc_Form___init__ (fun vs H Q E h => ?_) (fun cdv A outer s H vs Q E hr h => ?_)
  · obtain ⟨p, dx, w, pt, m, st, rfl, _⟩ := h
    rfl
  · obtain ⟨p, dx, w, pt, m, st, rfl, hw, h0, h1, hp, q⟩ := h
    refine ⟨_, PSs.nox (pss_cons (ps_if (pt_not (pt_val (pe_cal c_is_width hr (pa_cons (pv 1) pa_nil)))) (pss_one ps_never) pss_nil)
      (pss_cons (ps_if (pt_not (pt_val (pe_cal c_is_point hr (pa_cons (pv 2) pa_nil)))) (pss_one ps_never) pss_nil)
      (pss_cons (ps_if (pt_not (pt_val (pe_cal c_is_manner hr (pa_cons (pv 3) pa_nil)))) (pss_one ps_never) pss_nil)
      (pss_cons (ps_if (pt_not (pt_val (pe_cal c_is_ends hr (pa_cons (pv 4) pa_nil)))) (pss_one ps_never) pss_nil)
      (pss_cons (ps_fld (pv 0) (pv 1) rfl)
      (pss_cons (ps_fld (pv 0) (pv 2) rfl)
      (pss_cons (ps_fld (pv 0) (pv 3) rfl)
      (pss_one (ps_fld (pv 0) (pv 4) rfl))))))))), ?_⟩
    refine ⟨_, rfl, w, rfl, hw, _, rfl, iteF ?_⟩
    refine ⟨_, rfl, pt, rfl, h0, h1, _, rfl, iteF ?_⟩
    refine ⟨_, rfl, _, true, rfl, .inl ⟨m, rfl, rfl⟩, _, rfl, iteF ?_⟩
    refine ⟨_, rfl, st, rfl, _, rfl, iteF ?_⟩
    refine ⟨_, rfl, _, rfl, p, C, dx, [], rfl, hp, T.cl, T.nW, (by show 0 < 1000; decide), ?_⟩
    refine ⟨_, rfl, _, rfl, p, C, dx, _, rfl, upd_same, T.cl, T.nP, (by show 1 < 1000; decide), ?_⟩
    refine ⟨_, rfl, _, rfl, p, C, dx, _, rfl, upd_same, T.cl, T.nM, ?_, ?_⟩
    · simp only [putF, if_neg (ne_of_beq nPW)]
      show 2 < 1000
      decide
    refine ⟨_, rfl, _, rfl, p, C, dx, _, rfl, upd_same, T.cl, T.nE, ?_, ?_⟩
    · simp only [putF, if_neg (ne_of_beq nPW), if_neg (ne_of_beq nMW), if_neg (ne_of_beq nMP)]
      show 3 < 1000
      decide
    refine q _ ⟨⟨dx, ?_⟩, hw, h0, h1⟩ (fun b o hb e => ?_) (fun b hb e => ?_)
    · rw [upd_same]
      exact congrArg (fun l => some (HO.ins C dx l)) fl_put
    · rw [upd_ne hb, upd_ne hb, upd_ne hb, upd_ne hb]
      exact e
    · rw [upd_ne hb, upd_ne hb, upd_ne hb, upd_ne hb]
      exact e
theorem sc_Form_least : FnScope ["self"] ["self"] (defScope s_Form_least) := ⟨rfl, rfl, rfl, by decide +kernel, rfl, by decide +kernel, by decide +kernel⟩
theorem ok_Form_least {f : Addr} {fd : FuncData} {k : Nat} {C : Addr} (T : FTxt K mg C) (F : Fun K "least" "Form.least" s_Form_least f fd) : FnOk P w K mg base CX0 (k + 1) f fd ["self"] (spLeast C) := by
  refine F.ok sc_Form_least (fun vs H Q E h => ?_) (fun cdv A outer s H vs Q E hr h => ?_)
  · obtain ⟨p, w, pt, m, st, rfl, _⟩ := h
    rfl
  · obtain ⟨p, w, pt, m, st, rfl, ⟨⟨dx, ho⟩, hw, _, _⟩, q⟩ := h
    refine ⟨_, (pss_one (ps_ret (pe_ifExp (pt_cmpR op_isN (pe_fld (pv 0) rfl) pe_non (nomark _)) pe_non (pe_un un_neg (pe_op op_shl pe_int (pe_op op_sub (pe_fld (pv 0) rfl) pe_int)))))), ?_⟩
    refine ⟨_, rfl, p, C, dx, _, _, rfl, ho, T.cl, T.nW, fl_w, rfl, _, rfl, ?_⟩
    cases w with
    | none => exact iteT q
    | some x =>
      obtain ⟨h1, h2⟩ := hw x rfl
      refine iteF ⟨_, rfl, p, C, dx, _, _, rfl, ho, T.cl, T.nW, fl_w, _, _, rfl, rfl, _, _, rfl, rfl, ⟨by omega, by omega, by decide⟩, _, rfl, ?_⟩
      have e : (1 : Int) * 2 ^ (x - 1).toNat = two (x - 1) := Int.one_mul _
      rw [e]
      exact q
theorem sc_Form_greatest : FnScope ["self"] ["self"] (defScope s_Form_greatest) := ⟨rfl, rfl, rfl, by decide +kernel, rfl, by decide +kernel, by decide +kernel⟩
theorem ok_Form_greatest {f : Addr} {fd : FuncData} {k : Nat} {C : Addr} (T : FTxt K mg C) (F : Fun K "greatest" "Form.greatest" s_Form_greatest f fd) : FnOk P w K mg base CX0 (k + 1) f fd ["self"] (spGreatest C) := by
  refine F.ok sc_Form_greatest (fun vs H Q E h => ?_) (fun cdv A outer s H vs Q E hr h => ?_)
  · obtain ⟨p, w, pt, m, st, rfl, _⟩ := h
    rfl
  · obtain ⟨p, w, pt, m, st, rfl, ⟨⟨dx, ho⟩, hw, _, _⟩, q⟩ := h
    refine ⟨_, (pss_one (ps_ret (pe_ifExp (pt_cmpR op_isN (pe_fld (pv 0) rfl) pe_non (nomark _)) pe_non (pe_op op_sub (pe_op op_shl pe_int (pe_op op_sub (pe_fld (pv 0) rfl) pe_int)) pe_int)))), ?_⟩
    refine ⟨_, rfl, p, C, dx, _, _, rfl, ho, T.cl, T.nW, fl_w, rfl, _, rfl, ?_⟩
    cases w with
    | none => exact iteT q
    | some x =>
      obtain ⟨h1, h2⟩ := hw x rfl
      refine iteF ⟨_, rfl, p, C, dx, _, _, rfl, ho, T.cl, T.nW, fl_w, _, _, rfl, rfl, _, _, rfl, rfl, ⟨by omega, by omega, by decide⟩, _, _, rfl, rfl, ?_⟩
      have e : (1 : Int) * 2 ^ (x - 1).toNat = two (x - 1) := Int.one_mul _
      rw [e]
      exact q
theorem sc_Form_has : FnScope ["self", "thing"] ["self", "thing"] (defScope s_Form_has) := ⟨rfl, rfl, rfl, by decide +kernel, rfl, by decide +kernel, by decide +kernel⟩
theorem ok_Form_has {f : Addr} {fd : FuncData} {C : Addr} (T : FTxt K mg C) (F : Fun K "has" "Form.has" s_Form_has f fd) (c_is_whole : Cal P w K mg base 1 "is_whole" ["thing"] (spWhole K)) (m_least : CalM P w K mg base 1 C "least" ["self"] (spLeast C)) (m_greatest : CalM P w K mg base 1 C "greatest" ["self"] (spGreatest C)) : FnOk P w K mg base CX0 2 f fd ["self", "thing"] (spHas K C) := by
  refine F.ok sc_Form_has (fun vs H Q E h => ?_) (fun cdv A outer s H vs Q E hr h => ?_)
  · obtain ⟨p, w, pt, m, st, x, b, rfl, _⟩ := h
    rfl
  · obtain ⟨p, w, pt, m, st, x, b, rfl, hf, hx, q⟩ := h
    obtain ⟨⟨dx, ho⟩, hw, _, _⟩ := id hf
    refine ⟨_, (pss_cons (ps_if (pt_not (pt_val (pe_cal c_is_whole hr (pa_cons (pv 1) pa_nil)))) (pss_one (ps_ret pe_bl)) pss_nil)
      (pss_one (ps_ret (pe_or (pe_cmpR op_isN (pe_fld (pv 0) rfl) pe_non (nomark _)) (pe_one (pe_chain op_le op_le (pe_calm0 (pv 0) T.cl m_least hr) (pv 1) (pe_calm0 (pv 0) T.cl m_greatest hr))))))), ?_⟩
    rcases hx with ⟨n, rfl, rfl⟩ | ⟨hx, rfl⟩
    · refine ⟨_, rfl, _, true, rfl, .int n, _, rfl, iteF ?_⟩
      refine ⟨_, rfl, p, C, dx, _, _, rfl, ho, T.cl, T.nW, fl_w, rfl, _, rfl, ?_⟩
      cases w with
      | none => exact iteT q
      | some y =>
        refine iteF ⟨_, rfl, p, dx, _, rfl, ho, fl_no (by decide +kernel), p, some y, pt, m, st, rfl, hf, _, rfl, _, _, rfl, rfl, _, rfl, ?_⟩
        by_cases c : lst y ≤ n
        · rw [decide_eq_true c]
          refine iteT ⟨_, rfl, p, dx, _, rfl, ho, fl_no (by decide +kernel), p, some y, pt, m, st, rfl, hf, _, _, rfl, rfl, ?_⟩
          have q' : Q (.bl (decide (lst y ≤ n) && decide (n ≤ grt y))) H := q
          rw [decide_eq_true c, Bool.true_and] at q'
          exact q'
        · rw [decide_eq_false c]
          refine iteF ?_
          have q' : Q (.bl (decide (lst y ≤ n) && decide (n ≤ grt y))) H := q
          rw [decide_eq_false c, Bool.false_and] at q'
          exact q'
    · exact ⟨_, rfl, _, false, rfl, hx, _, rfl, iteT q⟩
theorem sc_Form_step : FnScope ["self"] ["self"] (defScope s_Form_step) := ⟨rfl, rfl, rfl, by decide +kernel, rfl, by decide +kernel, by decide +kernel⟩
theorem ok_Form_step {f : Addr} {fd : FuncData} {C : Addr} (T : FTxt K mg C) (F : Fun K "step" "Form.step" s_Form_step f fd) (c_two_to : Cal P w K mg base 2 "two_to" ["many"] spTwoTo) : FnOk P w K mg base CX0 3 f fd ["self"] (spStep C) := by
  refine F.ok sc_Form_step (fun vs H Q E h => ?_) (fun cdv A outer s H vs Q E hr h => ?_)
  · obtain ⟨p, w, pt, m, st, rfl, _⟩ := h
    rfl
  · obtain ⟨p, w, pt, m, st, rfl, ⟨⟨dx, ho⟩, hw, h0, h1⟩, q⟩ := h
    refine ⟨_, (pss_one (ps_ret (pe_cal c_two_to hr (pa_cons (pe_un un_neg (pe_fld (pv 0) rfl)) pa_nil)))), ?_⟩
    exact ⟨_, rfl, p, C, dx, _, _, rfl, ho, T.cl, T.nP, fl_p, _, rfl, -pt, rfl, by omega, by omega, q⟩
theorem sc_Form_word_for : FnScope ["self", "number"] ["self", "number"] (defScope s_Form_word_for) := ⟨rfl, rfl, rfl, by decide +kernel, rfl, by decide +kernel, by decide +kernel⟩
theorem ok_Form_word_for {f : Addr} {fd : FuncData} {C : Addr} (T : FTxt K mg C) (F : Fun K "word_for" "Form.word_for" s_Form_word_for f fd) (m_has : CalM P w K mg base 2 C "has" ["self", "thing"] (spHas K C)) (m_least : CalM P w K mg base 1 C "least" ["self"] (spLeast C)) (m_greatest : CalM P w K mg base 1 C "greatest" ["self"] (spGreatest C)) : FnOk P w K mg base CX0 3 f fd ["self", "number"] (spWord C) := by
  refine F.ok sc_Form_word_for (fun vs H Q E h => ?_) (fun cdv A outer s H vs Q E hr h => ?_)
  · obtain ⟨p, w, pt, m, st, n, rfl, _⟩ := h
    rfl
  · obtain ⟨p, w, pt, m, st, n, rfl, hf, q⟩ := h
    obtain ⟨⟨dx, ho⟩, hw, _, _⟩ := id hf
    refine ⟨_, (pss_cons (ps_if (pt_val (pe_calm (pv 0) T.cl m_has hr (pa_cons (pv 1) pa_nil))) (pss_one (ps_ret (pv 1))) pss_nil)
      (pss_cons (ps_if (pt_cmpR op_eq (pe_fld (pv 0) rfl) pe_str (nomark _)) (pss_one (ps_ret (pe_ifExp (pt_cmpR op_lt (pv 1) pe_int (nomark _)) (pe_calm0 (pv 0) T.cl m_least hr) (pe_calm0 (pv 0) T.cl m_greatest hr)))) pss_nil)
      (pss_one (ps_ret (pe_op op_add (pe_op op_mod (pe_op op_sub (pv 1) (pe_calm0 (pv 0) T.cl m_least hr)) (pe_op op_shl pe_int (pe_fld (pv 0) rfl))) (pe_calm0 (pv 0) T.cl m_least hr)))))), ?_⟩
    refine ⟨_, rfl, p, dx, _, rfl, ho, fl_no (by decide +kernel), _, rfl, p, w, pt, m, st, .int n, _, rfl, hf, .inl ⟨n, rfl, rfl⟩, _, rfl, ?_⟩
    cases w with
    | none => exact iteT ⟨_, rfl, q⟩
    | some y =>
      obtain ⟨y0, y1⟩ := hw y rfl
      replace q : Q (.int (if inR (some y) n = true then n else if st = true then (if n < 0 then lst y else grt y) else (n - lst y) % two y + lst y)) H := q
      cases hi : inR (some y) n with
      | true =>
        rw [hi] at q
        exact iteT ⟨_, rfl, q⟩
      | false =>
        rw [hi] at q
        refine iteF ?_
        cases st with
        | true =>
          refine ⟨_, rfl, p, C, dx, _, _, rfl, ho, T.cl, T.nE, fl_e, rfl, _, rfl, ?_⟩
          rw [decide_eq_true (show V.str (endS true) = V.str "stop" from rfl)]
          refine iteT ⟨_, rfl, _, _, rfl, rfl, _, rfl, ite2 (fun c => ?_) (fun c => ?_)⟩
          · have hc : n < 0 := toB c
            refine ⟨_, rfl, p, dx, _, rfl, ho, fl_no (by decide +kernel), p, some y, pt, m, true, rfl, hf, ?_⟩
            simp only [if_pos hc, if_neg Bool.false_ne_true, if_pos] at q
            exact q
          · have hc : ¬ n < 0 := toNB c
            refine ⟨_, rfl, p, dx, _, rfl, ho, fl_no (by decide +kernel), p, some y, pt, m, true, rfl, hf, ?_⟩
            simp only [if_neg hc, if_neg Bool.false_ne_true, if_pos] at q
            exact q
        | false =>
          refine ⟨_, rfl, p, C, dx, _, _, rfl, ho, T.cl, T.nE, fl_e, rfl, _, rfl, ?_⟩
          rw [decide_eq_false (show ¬ V.str (endS false) = V.str "stop" by intro z; exact absurd (V.str.inj z) (by decide +kernel))]
          have e2 : (1 : Int) * 2 ^ y.toNat = two y := Int.one_mul _
          refine iteF ⟨_, rfl, _, rfl, p, dx, _, rfl, ho, fl_no (by decide +kernel), p, some y, pt, m, false, rfl, hf, _, _, rfl, rfl, _, rfl, p, C, dx, _, _, rfl, ho, T.cl, T.nW, fl_w, _, _, rfl, rfl, ⟨by omega, by omega, by decide⟩, _, _, rfl, rfl, ?_, _, rfl, p, dx, _, rfl, ho, fl_no (by decide +kernel), p, some y, pt, m, false, rfl, hf, _, _, rfl, rfl, ?_⟩
          · show 0 < (1 : Int) * 2 ^ y.toNat
            rw [e2]
            exact two_pos y
          · rw [e2]
            simp only [if_neg Bool.false_ne_true] at q
            exact q
end
end E1

namespace E1
open PySem PySem.Spec PyProof.Rows L2
/-! ### nets: rows, holds, forms, points -/
/-- a new object, its heap named -/
theorem upd_gen {H G : Hp} {p : Addr} {o : HO} (e : upd H p o = G) (hp : H p = none) : Same H G ∧ G p = some o := by
  subst e
  exact ⟨same_new hp, upd_same⟩
theorem Same.sqL {K : PySem.W.Frag} {H H' : Hp} {a : Addr} {xs : List V} (e : Same H H') (h : SqL K H a xs) : SqL K H' a xs := by
  rcases h with (h | ⟨o, h⟩) | h
  · exact .inl (.inl (e _ _ h))
  · exact .inl (.inr ⟨o, e _ _ h⟩)
  · exact .inr h
theorem iteC {c d : Bool} {A B : Prop} (e : c = d) (h : if d = true then A else B) : if c = true then A else B := by
  rw [e]
  exact h
theorem sl_le {n : Nat} (h : n ≤ 100000) : n ≤ sizeLine := Nat.le_trans h (by decide)
theorem sl_lt {n : Nat} (h : n ≤ 100000) : n < sizeLine := Nat.lt_of_le_of_lt h (by decide)
inductive Row where
  | inn
  | old (k : Nat)
  | times (f : Int) (m a : Nat)
  | plus (a b : Nat)
  | less (a b : Nat)
  | move (m : Int) (a : Nat)
  | keep (f a : Nat)
inductive Kd7 where
  | inn | old | times | plus | less | move | keep
def Row.kd : Row → Kd7
  | .inn => .inn
  | .old _ => .old
  | .times _ _ _ => .times
  | .plus _ _ => .plus
  | .less _ _ => .less
  | .move _ _ => .move
  | .keep _ _ => .keep
def Kd7.s : Kd7 → Str
  | .inn => "in"
  | .old => "old"
  | .times => "times"
  | .plus => "plus"
  | .less => "less"
  | .move => "move"
  | .keep => "keep"
def Kd7.n : Kd7 → Nat
  | .inn => 1
  | .old => 2
  | .times => 4
  | .plus => 3
  | .less => 3
  | .move => 3
  | .keep => 3
def Row.vs : Row → List V
  | .inn => [.str "in"]
  | .old k => [.str "old", .int k]
  | .times f m a => [.str "times", .int f, .int m, .int a]
  | .plus a b => [.str "plus", .int a, .int b]
  | .less a b => [.str "less", .int a, .int b]
  | .move m a => [.str "move", .int m, .int a]
  | .keep f a => [.str "keep", .int f, .int a]
theorem Row.vs0 (r : Row) : r.vs[0]? = some (.str r.kd.s) := by cases r <;> rfl
theorem Row.vs_len (r : Row) : r.vs.length = r.kd.n := by cases r <;> rfl
/-- tuples that lie at the things of a list -/
inductive TsAt (H : Hp) : List V → List (List V) → Prop where
  | nil : TsAt H [] []
  | cons {p : Addr} {xs : List V} {vs : List V} {xss : List (List V)} (e : H p = some (.tup xs)) (r : TsAt H vs xss) : TsAt H (.ref p :: vs) (xs :: xss)
theorem TsAt.mono {H H' : Hp} {vs : List V} {xss : List (List V)} (h : TsAt H vs xss) (k : ∀ p xs, H p = some (.tup xs) → H' p = some (.tup xs)) : TsAt H' vs xss := by
  induction h with
  | nil => exact .nil
  | cons e _ ih => exact .cons (k _ _ e) ih
theorem TsAt.same {H H' : Hp} {vs : List V} {xss : List (List V)} (h : TsAt H vs xss) (s : Same H H') : TsAt H' vs xss := h.mono fun _ _ e => s _ _ e
theorem TsAt.len {H : Hp} {vs : List V} {xss : List (List V)} (h : TsAt H vs xss) : vs.length = xss.length := by
  induction h with
  | nil => rfl
  | cons _ _ ih => rw [List.length_cons, List.length_cons, ih]
theorem TsAt.get {H : Hp} {vs : List V} {xss : List (List V)} (h : TsAt H vs xss) : ∀ {i : Nat} {v : V}, vs[i]? = some v → ∃ p xs, v = .ref p ∧ xss[i]? = some xs ∧ H p = some (.tup xs) := by
  induction h with
  | nil => intro i v z; cases z
  | cons e _ ih =>
    intro i v z
    cases i with
    | zero =>
      cases z
      exact ⟨_, _, rfl, rfl, e⟩
    | succ i => exact ih z
theorem TsAt.at {H : Hp} {vs : List V} {xss : List (List V)} (h : TsAt H vs xss) : ∀ {i : Nat} {xs : List V}, xss[i]? = some xs → ∃ p, vs[i]? = some (.ref p) ∧ H p = some (.tup xs) := by
  induction h with
  | nil => intro i v z; cases z
  | cons e _ ih =>
    intro i v z
    cases i with
    | zero =>
      cases z
      exact ⟨_, rfl, e⟩
    | succ i => exact ih z
theorem TsAt.app {H : Hp} {vs ws : List V} {xss yss : List (List V)} (h : TsAt H vs xss) (g : TsAt H ws yss) : TsAt H (vs ++ ws) (xss ++ yss) := by
  induction h with
  | nil => exact g
  | cons e _ ih => exact .cons e ih
/-- a list of tuples in the heap -/
def TL7 (H : Hp) (a : Addr) (xss : List (List V)) : Prop := ∃ vs, H a = some (.lst vs) ∧ TsAt H vs xss
theorem TL7.same {H H' : Hp} {a : Addr} {xss : List (List V)} (h : TL7 H a xss) (s : Same H H') : TL7 H' a xss := by
  obtain ⟨vs, e, t⟩ := h
  exact ⟨vs, s _ _ e, t.same s⟩
/-- but for another list -/
theorem TsAt.but {H H' : Hp} {a : Addr} {ys : List V} {vs : List V} {xss : List (List V)} (h : TsAt H vs xss) (s : SameBut a H H') (ha : H a = some (.lst ys)) : TsAt H' vs xss := h.mono fun p xs e => s p _ (ne_of e ha (fun z => nomatch z)) e
theorem TL7.but {H H' : Hp} {a b : Addr} {ys : List V} {xss : List (List V)} (h : TL7 H a xss) (s : SameBut b H H') (hb : H b = some (.lst ys)) (n : a ≠ b) : TL7 H' a xss := by
  obtain ⟨vs, e, t⟩ := h
  exact ⟨vs, s _ _ n e, t.but s hb⟩
structure FormP where
  w : Option Int
  pt : Int
  m : Mn
  st : Bool
def FormP.vs (f : FormP) : List V := [wV f.w, .int f.pt, .str f.m.str, .str (endS f.st)]
structure FormP.Ok (f : FormP) : Prop where
  wo : WOk f.w
  p0 : -64 ≤ f.pt
  p1 : f.pt ≤ 64
abbrev FAt (C : Addr) (H : Hp) (p : Addr) (f : FormP) : Prop := FormAt C H p f.w f.pt f.m f.st
/-- forms that are the things of a list -/
inductive FsAt (C : Addr) (H : Hp) : List V → List FormP → Prop where
  | nil : FsAt C H [] []
  | cons {p : Addr} {f : FormP} {vs : List V} {fs : List FormP} (e : FAt C H p f) (r : FsAt C H vs fs) : FsAt C H (.ref p :: vs) (f :: fs)
theorem FsAt.same {C : Addr} {H H' : Hp} {vs : List V} {fs : List FormP} (h : FsAt C H vs fs) (s : Same H H') : FsAt C H' vs fs := by
  induction h with
  | nil => exact .nil
  | cons e _ ih => exact .cons (FormAt.same e s) ih
theorem FsAt.len {C : Addr} {H : Hp} {vs : List V} {fs : List FormP} (h : FsAt C H vs fs) : vs.length = fs.length := by
  induction h with
  | nil => rfl
  | cons _ _ ih => rw [List.length_cons, List.length_cons, ih]
theorem FsAt.get {C : Addr} {H : Hp} {vs : List V} {fs : List FormP} (h : FsAt C H vs fs) : ∀ {i : Nat} {v : V}, vs[i]? = some v → ∃ p f, v = .ref p ∧ fs[i]? = some f ∧ FAt C H p f := by
  induction h with
  | nil => intro i v z; cases z
  | cons e _ ih =>
    intro i v z
    cases i with
    | zero =>
      cases z
      exact ⟨_, _, rfl, rfl, e⟩
    | succ i => exact ih z
theorem FsAt.at {C : Addr} {H : Hp} {vs : List V} {fs : List FormP} (h : FsAt C H vs fs) : ∀ {i : Nat} {f : FormP}, fs[i]? = some f → ∃ p, vs[i]? = some (.ref p) ∧ FAt C H p f := by
  induction h with
  | nil => intro i v z; cases z
  | cons e _ ih =>
    intro i v z
    cases i with
    | zero =>
      cases z
      exact ⟨_, rfl, e⟩
    | succ i => exact ih z
theorem FsAt.app {C : Addr} {H : Hp} {vs ws : List V} {fs gs : List FormP} (h : FsAt C H vs fs) (g : FsAt C H ws gs) : FsAt C H (vs ++ ws) (fs ++ gs) := by
  induction h with
  | nil => exact g
  | cons e _ ih => exact .cons e ih
structure Hold where
  k : Nat
  s : Int
  l : Nat
def Hold.vs (h : Hold) : List V := [.int h.k, .int h.s, .int h.l]
structure NetP where
  fs : List FormP
  en : Nat
  rows : List Row
  holds : List Hold
  out : Nat
def fpt (fs : List FormP) (k : Nat) : Int := ((fs.map (·.pt)).getD k 0)
def hpts (n : NetP) : List Int := n.holds.map fun h => fpt n.fs h.k
/-- a row's point, from the points ahead -/
def rowPt (en : Int) (hp fp pts : List Int) : Row → Int
  | .inn => en
  | .old k => hp.getD k 0
  | .times _ m a => pts.getD a 0 + m
  | .plus a b => let x := pts.getD a 0; let y := pts.getD b 0; if y > x then y else x
  | .less a b => let x := pts.getD a 0; let y := pts.getD b 0; if y > x then y else x
  | .move m a => pts.getD a 0 - m
  | .keep f _ => fp.getD f 0
def ptsOf (en : Int) (hp fp : List Int) (rows : List Row) : List Int := rows.foldl (fun pts r => pts ++ [rowPt en hp fp pts r]) []
def NetP.pts (n : NetP) : List Int := ptsOf (fpt n.fs n.en) (hpts n) (n.fs.map (·.pt)) n.rows
theorem ptsOf_snoc (en : Int) (hp fp : List Int) (rows : List Row) (r : Row) : ptsOf en hp fp (rows ++ [r]) = ptsOf en hp fp rows ++ [rowPt en hp fp (ptsOf en hp fp rows) r] := by
  unfold ptsOf
  rw [List.foldl_append]
  rfl
theorem ptsOf_len (en : Int) (hp fp : List Int) (rows : List Row) : (ptsOf en hp fp rows).length = rows.length := by
  have key : ∀ (rows : List Row) (acc : List Int), (rows.foldl (fun pts r => pts ++ [rowPt en hp fp pts r]) acc).length = acc.length + rows.length := by
    intro rows
    induction rows with
    | nil => intro acc; rfl
    | cons r rs ih =>
      intro acc
      rw [List.foldl_cons, ih]
      simp only [List.length_append, List.length_cons, List.length_nil]
      omega
  have := key rows []
  rw [List.length_nil] at this
  unfold ptsOf
  omega
theorem ptsOf_take (en : Int) (hp fp : List Int) (rows : List Row) (i : Nat) : (ptsOf en hp fp rows).take i = ptsOf en hp fp (rows.take i) := by
  have key : ∀ (rs : List Row) (acc : List Int) (i : Nat), ((rs.foldl (fun pts r => pts ++ [rowPt en hp fp pts r]) acc)).take (acc.length + i) = (rs.take i).foldl (fun pts r => pts ++ [rowPt en hp fp pts r]) acc := by
    intro rs
    induction rs with
    | nil =>
      intro acc i
      rw [List.take_nil]
      exact List.take_of_length_le (by show acc.length ≤ _; omega)
    | cons r rs ih =>
      intro acc i
      cases i with
      | zero =>
        rw [List.take_zero, Nat.add_zero]
        have h := ih (acc ++ [rowPt en hp fp acc r]) 0
        rw [Nat.add_zero, List.take_zero] at h
        rw [List.foldl_cons]
        have h2 := congrArg (List.take acc.length) h
        rw [List.take_take, List.length_append] at h2
        rw [show min acc.length (acc.length + [rowPt en hp fp acc r].length) = acc.length by omega] at h2
        rw [h2]
        show (acc ++ [rowPt en hp fp acc r]).take acc.length = acc
        rw [List.take_append_of_le_length (Nat.le_refl _), List.take_length]
      | succ i =>
        rw [List.foldl_cons, List.take_succ_cons, List.foldl_cons]
        have h := ih (acc ++ [rowPt en hp fp acc r]) i
        rw [List.length_append, List.length_singleton] at h
        rw [← h]
        congr 1
        omega
  have := key rows [] i
  rw [List.length_nil, Nat.zero_add] at this
  exact this
/-- a row that may stand at place i -/
def RowOk (hc fc i : Nat) : Row → Prop
  | .inn => True
  | .old k => k < hc
  | .times f m a => f.natAbs < 9223372036854775808 ∧ m ≤ 64 ∧ a < i
  | .plus a b => a < i ∧ b < i
  | .less a b => a < i ∧ b < i
  | .move m a => m.natAbs ≤ 64 ∧ a < i
  | .keep f a => f < fc ∧ a < i
structure NetOk (n : NetP) : Prop where
  f1 : 1 ≤ n.fs.length
  f2 : n.fs.length ≤ 12
  fo : ∀ f ∈ n.fs, f.Ok
  en : n.en < n.fs.length
  h2 : n.holds.length ≤ 6
  ho : ∀ h ∈ n.holds, h.k < n.fs.length ∧ (∀ f, n.fs[h.k]? = some f → inR f.w h.s = true) ∧ ∃ a, n.rows[h.l]? = some (.keep h.k a)
  r1 : 1 ≤ n.rows.length
  r2 : n.rows.length ≤ 60
  ro : ∀ i r, n.rows[i]? = some r → RowOk n.holds.length n.fs.length i r
  po : ∀ p ∈ n.pts, -200 ≤ p ∧ p ≤ 200
  out : n.out < n.rows.length
/-- a net in the heap -/
def nflds (fl : Addr) (en : Int) (rl hl : Addr) (out : Int) (pl : Addr) : List (Str × V) := [("form_list", .ref fl), ("enters_at", .int en), ("row_list", .ref rl), ("hold_list", .ref hl), ("out_at", .int out), ("point_list", .ref pl)]
structure NetB (C CN : Addr) (H : Hp) (p : Addr) (n : NetP) (dx fl rl hl pl : Addr) (fv rv hv : List V) : Prop where
  ob : H p = some (.ins CN dx (nflds fl n.en rl hl n.out pl))
  fa : H fl = some (.lst fv)
  fs : FsAt C H fv n.fs
  ra : H rl = some (.lst rv)
  rs : TsAt H rv (n.rows.map Row.vs)
  ha : H hl = some (.lst hv)
  hs : TsAt H hv (n.holds.map Hold.vs)
  pa : H pl = some (.lst (n.pts.map V.int))
def NetAt (C CN : Addr) (H : Hp) (p : Addr) (n : NetP) : Prop := NetOk n ∧ ∃ dx fl rl hl pl fv rv hv, NetB C CN H p n dx fl rl hl pl fv rv hv
theorem NetB.same {C CN : Addr} {H H' : Hp} {p : Addr} {n : NetP} {dx fl rl hl pl : Addr} {fv rv hv : List V} (h : NetB C CN H p n dx fl rl hl pl fv rv hv) (s : Same H H') : NetB C CN H' p n dx fl rl hl pl fv rv hv :=
  ⟨s _ _ h.ob, s _ _ h.fa, h.fs.same s, s _ _ h.ra, h.rs.same s, s _ _ h.ha, h.hs.same s, s _ _ h.pa⟩
theorem NetAt.same {C CN : Addr} {H H' : Hp} {p : Addr} {n : NetP} (h : NetAt C CN H p n) (s : Same H H') : NetAt C CN H' p n := by
  obtain ⟨o, dx, fl, rl, hl, pl, fv, rv, hv, b⟩ := h
  exact ⟨o, dx, fl, rl, hl, pl, fv, rv, hv, b.same s⟩
theorem get_map {α : Type} {l : List α} {i : Nat} {g : α → V} {x : α} (h : l[i]? = some x) : (l.map g)[i]? = some (g x) := by rw [List.getElem?_map, h]; rfl
theorem getD_of {l : List Int} {i : Nat} (h : i < l.length) : l[i]? = some (l.getD i 0) := by
  rw [List.getD_eq_getElem?_getD, List.getElem?_eq_getElem h]
  rfl
theorem ints_at {l : List Int} {i : Nat} (h : i < l.length) : atI (l.map V.int) (i : Int) = some (.int (l.getD i 0)) := atI_nat (get_map (getD_of h))
end E1

namespace E1
open PySem PySem.Spec PyProof.Rows L2

/-- how many steps of the form a number at a point is, rounded -/
def stepsAt (pt : Int) (m : Mn) (n p : Int) : Int := if p ≤ pt then n * 2 ^ (pt - p).toNat else m.f n (2 ^ (p - pt).toNat)
def spEnded (C : Addr) : Sp := fun vs H Q _ => ∃ (p : Addr) (w : Option Int) (pt : Int) (m : Mn) (st : Bool) (n : Int), vs = [.ref p, .int n] ∧ FormAt C H p w pt m st ∧ ∀ r, H r = none → Q (.ref r) (upd H r (.tup [.int (wordF w st n), .int (n - wordF w st n)]))
def spKeptAt (C : Addr) : Sp := fun vs H Q _ => ∃ (p : Addr) (w : Option Int) (pt : Int) (m : Mn) (st : Bool) (n x : Int), vs = [.ref p, .int n, .int x] ∧ FormAt C H p w pt m st ∧ -200 ≤ x ∧ x ≤ 200 ∧ n.natAbs < 2 ^ 900000 ∧
  ∀ (r : Addr) (H' : Hp), H r = none → Same H H' → H' r = some (.tup [.int (wordF w st (stepsAt pt m n x)), .int (stepsAt pt m n x - wordF w st (stepsAt pt m n x))]) → Q (.ref r) H'
theorem ibits_lt {i : Int} {n : Nat} (h : i.natAbs < 2 ^ n) : Builtin.Int.intBits i ≤ n := by
  exact PySem.intBits_le_iff.mpr h
theorem shl_ok {i : Int} {n k : Nat} (h : i.natAbs < 2 ^ n) (l : n + k ≤ 1000000) : CShl i (k : Int) := by
  refine ⟨by omega, ?_⟩
  have := ibits_lt h
  omega
theorem one_shl (k : Nat) : (1 : Int) * 2 ^ k = 2 ^ k := Int.one_mul _
theorem two_pow_lt {k n : Nat} (h : k < n) : ((2 : Int) ^ k).natAbs < 2 ^ n := by
  rw [Int.natAbs_pow]
  exact Nat.pow_lt_pow_right (by decide) h
theorem two_pow_pos (k : Nat) : (0 : Int) < 2 ^ k := Int.pow_pos (by decide)
section
variable {P : Program} {w : World} {K : PySem.W.Frag} {mg : Str → Option Value} {base : Heap}
theorem sc_Form_ended : FnScope ["self", "number", "word"] ["self", "number"] (defScope s_Form_ended) := ⟨rfl, rfl, rfl, by decide +kernel, rfl, by decide +kernel, by decide +kernel⟩
theorem ok_Form_ended {f : Addr} {fd : FuncData} {C : Addr} (T : FTxt K mg C) (F : Fun K "ended" "Form.ended" s_Form_ended f fd) (m_word_for : CalM P w K mg base 3 C "word_for" ["self", "number"] (spWord C)) : FnOk P w K mg base CX0 4 f fd ["self", "number"] (spEnded C) := by
  refine F.ok sc_Form_ended (fun vs H Q E h => ?_) (fun cdv A outer s H vs Q E hr h => ?_)
  · obtain ⟨p, w, pt, m, st, n, rfl, _⟩ := h
    rfl
  · obtain ⟨p, w, pt, m, st, n, rfl, hf, q⟩ := h
    obtain ⟨⟨dx, ho⟩, hw, h0, h1⟩ := id hf
    refine ⟨_, (pss_cons (ps_set (i := 2) sc_Form_ended.nd rfl (.inl rfl) (pe_calm (pv 0) T.cl m_word_for hr (pa_cons (pv 1) pa_nil)))
      (pss_one (ps_ret (pe_tup (pa_cons (pv 2) (pa_cons (pe_op op_sub (pv 1) (pv 2)) pa_nil)))))), ?_⟩
    refine ⟨_, rfl, p, dx, _, rfl, ho, fl_no (by decide +kernel), _, rfl, p, w, pt, m, st, n, rfl, hf, ?_⟩
    exact ⟨_, rfl, _, rfl, _, rfl, _, _, rfl, rfl, (by show 2 ≤ sizeLine; decide), fun r hr => q r hr⟩
theorem sc_Form_kept_at : FnScope ["self", "number", "point"] ["self", "number", "point"] (defScope s_Form_kept_at) := ⟨rfl, rfl, rfl, by decide +kernel, rfl, by decide +kernel, by decide +kernel⟩
theorem ok_Form_kept_at {f : Addr} {fd : FuncData} {C : Addr} (T : FTxt K mg C) (F : Fun K "kept_at" "Form.kept_at" s_Form_kept_at f fd) (c_rounded : Cal P w K mg base 3 "rounded" ["value", "manner"] (spRounded K)) (m_ended : CalM P w K mg base 4 C "ended" ["self", "number"] (spEnded C)) : FnOk P w K mg base CX0 5 f fd ["self", "number", "point"] (spKeptAt C) := by
  refine F.ok sc_Form_kept_at (fun vs H Q E h => ?_) (fun cdv A outer s H vs Q E hr h => ?_)
  · obtain ⟨p, w, pt, m, st, n, x, rfl, _⟩ := h
    rfl
  · obtain ⟨p, w, pt, m, st, n, x, rfl, hf, x0, x1, hn, q⟩ := h
    obtain ⟨⟨dx, ho⟩, hw, h0, h1⟩ := id hf
    refine ⟨_, (pss_cons (ps_if (pt_cmpR op_le (pv 2) (pe_fld (pv 0) rfl) (nomark _)) (pss_one (ps_ret (pe_calm (pv 0) T.cl m_ended hr (pa_cons (pe_op op_shlW (pv 1) (pe_op op_sub (pe_fld (pv 0) rfl) (pv 2))) pa_nil)))) pss_nil)
      (pss_one (ps_ret (pe_calm (pv 0) T.cl m_ended hr (pa_cons (pe_cal c_rounded hr (pa_cons (pe_tup (pa_cons (pv 1) (pa_cons (pe_op op_shlW pe_int (pe_op op_sub (pv 2) (pe_fld (pv 0) rfl))) pa_nil))) (pa_cons (pe_fld (pv 0) rfl) pa_nil))) pa_nil))))), ?_⟩
    refine ⟨_, rfl, _, rfl, p, C, dx, _, _, rfl, ho, T.cl, T.nP, fl_p, _, _, rfl, rfl, _, rfl, ite2 (fun c => ?_) (fun c => ?_)⟩
    · have hc : x ≤ pt := toB c
      have e : pt - x = (((pt - x).toNat : Nat) : Int) := by omega
      refine ⟨_, rfl, p, dx, _, rfl, ho, fl_no (by decide +kernel), _, rfl, _, rfl, p, C, dx, _, _, rfl, ho, T.cl, T.nP, fl_p, _, rfl, _, _, rfl, rfl, _, _, rfl, rfl, ?_, p, w, pt, m, st, _, rfl, hf, fun r hr => ?_⟩
      · rw [e]
        exact shl_ok hn (by omega)
      · have es : stepsAt pt m n x = n * 2 ^ (pt - x).toNat := if_pos hc
        have := q r _ hr (same_new (o := .tup [.int (wordF w st (n * 2 ^ (pt - x).toNat)), .int (n * 2 ^ (pt - x).toNat - wordF w st (n * 2 ^ (pt - x).toNat))]) hr)
        rw [es] at this
        exact this upd_same
    · have hc : ¬ x ≤ pt := toNB c
      have e : x - pt = (((x - pt).toNat : Nat) : Int) := by omega
      refine ⟨_, rfl, p, dx, _, rfl, ho, fl_no (by decide +kernel), _, rfl, _, rfl, _, rfl, p, C, dx, _, _, rfl, ho, T.cl, T.nP, fl_p, _, _, rfl, rfl, _, _, rfl, rfl, ?_, (by show 2 ≤ sizeLine; decide), fun t ht => ?_⟩
      · rw [e]
        exact shl_ok (n := 1) (by decide) (by omega)
      generalize hG : upd _ t _ = G
      obtain ⟨s, h_t⟩ := upd_gen hG ht
      have ho2 := s _ _ ho
      refine ⟨_, rfl, p, C, dx, _, _, rfl, ho2, T.cl, T.nM, fl_m, t, m, n, _, rfl, SqT.of h_t, ?_, up hn (by omega), ?_, p, w, pt, m, st, _, rfl, hf.same s, fun r hr => ?_⟩
      · rw [Int.one_mul]
        exact two_pow_pos _
      · rw [Int.one_mul]
        exact up (two_pow_lt (n := 300) (by omega)) (by decide)
      · have es : stepsAt pt m n x = m.f n (2 ^ (x - pt).toNat) := if_neg hc
        rw [Int.one_mul]
        have := q r _ (s.free hr) (s.trans (same_new (o := .tup [.int (wordF w st (m.f n (2 ^ (x - pt).toNat))), .int (m.f n (2 ^ (x - pt).toNat) - wordF w st (m.f n (2 ^ (x - pt).toNat)))]) hr))
        rw [es] at this
        exact this upd_same
end
end E1

namespace E1
open PySem PySem.Spec PyProof.Rows L2

def GivenAt (H : Hp) (gv : Addr) (en : Int) (hp fp : List Int) : Prop := ∃ ha fa, H gv = some (.tup [.int en, .ref ha, .ref fa]) ∧ H ha = some (.lst (hp.map V.int)) ∧ H fa = some (.lst (fp.map V.int))
def spPlace : Sp := fun vs H Q _ => ∃ k n : Int, vs = [.int k, .int n] ∧ 0 ≤ k ∧ k < n ∧ Q (.bl true) H
def spFactor : Sp := fun vs H Q _ => ∃ f : Int, vs = [.int f] ∧ f.natAbs < 9223372036854775808 ∧ Q (.bl true) H
def spRule (kd : Kd7) : Sp := fun vs H Q _ => ∃ (ra pa gv : Addr) (r : Row) (en : Int) (hp fp pts : List Int), vs = [.ref ra, .ref pa, .ref gv] ∧ H ra = some (.tup r.vs) ∧ r.kd = kd ∧ H pa = some (.lst (pts.map V.int)) ∧ GivenAt H gv en hp fp ∧ RowOk hp.length fp.length pts.length r ∧ Q (.int (rowPt en hp fp pts r)) H
def spRowPt : Sp := fun vs H Q _ => ∃ (ra pa gv : Addr) (r : Row) (en : Int) (hp fp pts : List Int), vs = [.ref ra, .ref pa, .ref gv] ∧ H ra = some (.tup r.vs) ∧ H pa = some (.lst (pts.map V.int)) ∧ GivenAt H gv en hp fp ∧ RowOk hp.length fp.length pts.length r ∧ -200 ≤ rowPt en hp fp pts r ∧ rowPt en hp fp pts r ≤ 200 ∧ Q (.int (rowPt en hp fp pts r)) H
def spWritten : Sp := fun vs H Q _ => ∃ (ra : Addr) (r : Row), vs = [.ref ra] ∧ H ra = some (.tup r.vs) ∧ Q (.bl true) H
structure Lens (w : World) (K : PySem.W.Frag) (mg : Str → Option Value) (dL : Addr) (es : Array DictEntry) (n : Nat) : Prop where
  gm : mg "ROW_LENGTHS" = some (.ref dL)
  D : KDict K w dL es n
  at_ : ∀ k : Kd7, ∃ t, PySem.W.nsIn K dL k.s = some (some (.int (k.n : Int) t))
structure Ruls (P : Program) (w : World) (K : PySem.W.Frag) (mg : Str → Option Value) (base : Heap) (dP : Addr) (es : Array DictEntry) (n : Nat) : Prop where
  gm : mg "POINT_RULES" = some (.ref dP)
  D : KDict K w dP es n
  at_ : ∀ k : Kd7, ∃ (f : Addr) (fd : FuncData), PySem.W.nsIn K dP k.s = some (some (.ref f)) ∧ PySem.W.keepIn K (.ref f) = true ∧ Binds K fd ["row", "points", "given"] [] ∧ FnOk P w K mg base CX0 3 f fd ["row", "points", "given"] (spRule k)
structure NCst (mg : Str → Option Value) : Prop where
  fe : ∃ t, mg "FACTOR_END" = some (.int 9223372036854775808 t)
  gs : ∃ t, mg "GREATEST_SHIFT" = some (.int 64 t)
  gr : ∃ t, mg "GREATEST_ROW_POINT" = some (.int 200 t)
  mf : ∃ t, mg "MOST_FORMS" = some (.int 12 t)
  mr : ∃ t, mg "MOST_ROWS" = some (.int 60 t)
  mh : ∃ t, mg "MOST_HOLDS" = some (.int 6 t)
theorem qt {p : Prop} [Decidable p] {Q : VK} {H : Hp} (h : p) (q : Q (.bl true) H) : Q (.bl (decide p)) H := (congrArg (fun c => Q (.bl c) H) (decide_eq_true h)).mpr q
theorem lenI {l : List Int} : ((l.map V.int).length : Int) = (l.length : Int) := by rw [List.length_map]
section
variable {P : Program} {w : World} {K : PySem.W.Frag} {mg : Str → Option Value} {base : Heap}
theorem sc_is_place : FnScope ["thing", "many"] ["thing", "many"] (defScope s_is_place) := ⟨rfl, rfl, rfl, by decide +kernel, rfl, by decide +kernel, by decide +kernel⟩
theorem ok_is_place {f : Addr} {fd : FuncData} (F : Fun K "is_place" "is_place" s_is_place f fd) (c_is_whole : Cal P w K mg base 1 "is_whole" ["thing"] (spWhole K)) : FnOk P w K mg base CX0 2 f fd ["thing", "many"] spPlace := by
  refine F.ok sc_is_place (fun vs H Q E h => ?_) (fun cdv A outer s H vs Q E hr h => ?_)
  · obtain ⟨k, n, rfl, _⟩ := h
    rfl
  · obtain ⟨k, n, rfl, h0, h1, q⟩ := h
    refine ⟨_, (pss_one (ps_ret (pe_and (pe_cal c_is_whole hr (pa_cons (pv 0) pa_nil)) (pe_one (pe_chain op_le op_lt pe_int (pv 0) (pv 1)))))), ?_⟩
    refine ⟨_, rfl, _, true, rfl, .inl ⟨k, rfl, rfl⟩, _, rfl, iteT ⟨_, rfl, _, _, rfl, rfl, _, rfl, ?_⟩⟩
    rw [decide_eq_true (show (0 : Int) ≤ k from h0)]
    exact iteT ⟨_, rfl, _, _, rfl, rfl, qt h1 q⟩
theorem sc_is_factor : FnScope ["thing"] ["thing"] (defScope s_is_factor) := ⟨rfl, rfl, rfl, by decide +kernel, rfl, by decide +kernel, by decide +kernel⟩
theorem ok_is_factor {f : Addr} {fd : FuncData} (NC : NCst mg) (F : Fun K "is_factor" "is_factor" s_is_factor f fd) (z : Zs mg) (c_is_whole : Cal P w K mg base 1 "is_whole" ["thing"] (spWhole K)) : FnOk P w K mg base CX0 2 f fd ["thing"] spFactor := by
  refine F.ok sc_is_factor (fun vs H Q E h => ?_) (fun cdv A outer s H vs Q E hr h => ?_)
  · obtain ⟨k, rfl, _⟩ := h
    rfl
  · obtain ⟨k, rfl, h1, q⟩ := h
    refine ⟨_, (pss_one (ps_ret (pe_and (pe_cal c_is_whole hr (pa_cons (pv 0) pa_nil)) (pe_one (pe_cmpR op_lt (pe_callB call_abs (by rfl) z.abs (by decide +kernel) (pa_cons (pv 0) pa_nil)) (pe_glob (v := .int 9223372036854775808) (by rfl) NC.fe.choose_spec ⟨_, rfl⟩) (nomark _)))))), ?_⟩
    refine ⟨_, rfl, _, true, rfl, .inl ⟨k, rfl, rfl⟩, _, rfl, iteT ⟨_, rfl, _, rfl, _, _, rfl, rfl, qt (show (if k < 0 then -k else k) < 9223372036854775808 by split <;> omega) q⟩⟩
theorem sc_in_point : FnScope ["row", "points", "given"] ["row", "points", "given"] (defScope s_in_point) := ⟨rfl, rfl, rfl, by decide +kernel, rfl, by decide +kernel, by decide +kernel⟩
theorem ok_in_point {f : Addr} {fd : FuncData} (F : Fun K "in_point" "in_point" s_in_point f fd) : FnOk P w K mg base CX0 3 f fd ["row", "points", "given"] (spRule .inn) := by
  refine F.ok sc_in_point (fun vs H Q E h => ?_) (fun cdv A outer s H vs Q E hr h => ?_)
  · obtain ⟨ra, pa, gv, r, en, hp, fp, pts, rfl, _⟩ := h
    rfl
  · obtain ⟨ra, pa, gv, r, en, hp, fp, pts, rfl, hra, hk, hpa, ⟨ha, fa, hgv, hha, hfa⟩, hok, q⟩ := h
    refine ⟨_, (pss_one (ps_ret (pe_ix ix_tup (pv 2) pe_int (fun _ _ => rfl)))), ?_⟩
    match r, hk, hok, hra, q with
    | .inn, _, _, hra, q => exact ⟨_, rfl, gv, _, 0, .int en, rfl, rfl, SqT.of hgv, a0, q⟩
theorem sc_old_point : FnScope ["row", "points", "given", "hold_points"] ["row", "points", "given"] (defScope s_old_point) := ⟨rfl, rfl, rfl, by decide +kernel, rfl, by decide +kernel, by decide +kernel⟩
theorem ok_old_point {f : Addr} {fd : FuncData} (z : Zs mg) (c_is_place : Cal P w K mg base 2 "is_place" ["thing", "many"] spPlace) (F : Fun K "old_point" "old_point" s_old_point f fd) : FnOk P w K mg base CX0 3 f fd ["row", "points", "given"] (spRule .old) := by
  refine F.ok sc_old_point (fun vs H Q E h => ?_) (fun cdv A outer s H vs Q E hr h => ?_)
  · obtain ⟨ra, pa, gv, r, en, hp, fp, pts, rfl, _⟩ := h
    rfl
  · obtain ⟨ra, pa, gv, r, en, hp, fp, pts, rfl, hra, hk, hpa, ⟨ha, fa, hgv, hha, hfa⟩, hok, q⟩ := h
    refine ⟨_, (pss_cons (ps_set (i := 3) sc_old_point.nd rfl (.inl rfl) (pe_ix ix_tup (pv 2) pe_int (fun _ _ => rfl)))
      (pss_one (ps_ret (pe_ifExp (pt_val (pe_cal c_is_place hr (pa_cons (pe_ix ix_tup (pv 0) pe_int (fun _ _ => rfl)) (pa_cons (pe_callB call_len_seq (by rfl) z.len PySem.boot_len (pa_cons (pv 3) pa_nil)) pa_nil)))) (pe_ix ix_list (pv 3) (pe_ix ix_tup (pv 0) pe_int (fun _ _ => rfl)) (fun _ _ => rfl)) pe_non)))), ?_⟩
    match r, hk, hok, hra, q with
    | .old k, _, hok, hra, q =>
      have hk : k < hp.length := hok
      refine ⟨_, rfl, gv, _, 1, .ref ha, rfl, rfl, SqT.of hgv, a1, _, rfl, ra, _, 1, .int k, rfl, rfl, SqT.of hra, a1, _, rfl, ha, _, rfl, .inl (SqL.of hha), _, _, rfl, by omega, by rw [lenI]; omega, _, rfl, iteT ?_⟩
      exact ⟨_, rfl, _, rfl, ra, _, 1, .int k, rfl, rfl, SqT.of hra, a1, ha, _, _, _, rfl, rfl, SqL.of hha, ints_at hk, q⟩
theorem sc_times_point : FnScope ["row", "points", "given", "word", "factor", "more", "at"] ["row", "points", "given"] (defScope s_times_point) := ⟨rfl, rfl, rfl, by decide +kernel, rfl, by decide +kernel, by decide +kernel⟩
theorem ok_times_point {f : Addr} {fd : FuncData} (NC : NCst mg) (z : Zs mg) (c_is_factor : Cal P w K mg base 2 "is_factor" ["thing"] spFactor) (c_is_place : Cal P w K mg base 2 "is_place" ["thing", "many"] spPlace) (F : Fun K "times_point" "times_point" s_times_point f fd) : FnOk P w K mg base CX0 3 f fd ["row", "points", "given"] (spRule .times) := by
  refine F.ok sc_times_point (fun vs H Q E h => ?_) (fun cdv A outer s H vs Q E hr h => ?_)
  · obtain ⟨ra, pa, gv, r, en, hp, fp, pts, rfl, _⟩ := h
    rfl
  · obtain ⟨ra, pa, gv, r, en, hp, fp, pts, rfl, hra, hk, hpa, ⟨ha, fa, hgv, hha, hfa⟩, hok, q⟩ := h
    refine ⟨_, (pss_cons (ps_asg (pv 0) (pg_tup (by rfl) (pgs_cons (pg_name (i := 3) sc_times_point.nd rfl (.inl rfl)) (pgs_cons (pg_name (i := 4) sc_times_point.nd rfl (.inl rfl)) (pgs_cons (pg_name (i := 5) sc_times_point.nd rfl (.inl rfl)) (pgs_cons (pg_name (i := 6) sc_times_point.nd rfl (.inl rfl)) pgs_nil))))))
      (pss_cons (ps_if (PW.pt (pw_or (pt_not (pt_val (pe_cal c_is_factor hr (pa_cons (pv 4) pa_nil)))) (pw_or (pt_not (pt_val (pe_cal c_is_place hr (pa_cons (pv 5) (pa_cons (pe_op op_add (pe_glob (v := .int 64) (by rfl) NC.gs.choose_spec ⟨_, rfl⟩) pe_int) pa_nil))))) (pw_or1 (pt_not (pt_val (pe_cal c_is_place hr (pa_cons (pv 6) (pa_cons (pe_callB call_len_seq (by rfl) z.len PySem.boot_len (pa_cons (pv 1) pa_nil)) pa_nil))))))))) (pss_one (ps_ret pe_non)) pss_nil)
      (pss_one (ps_ret (pe_op op_add (pe_ix ix_list (pv 1) (pv 6) (fun _ _ => rfl)) (pv 5)))))), ?_⟩
    match r, hk, hok, hra, q with
    | .times f m a, _, hok, hra, q =>
      obtain ⟨h1, h2, h3⟩ := hok
      refine ⟨_, rfl, ra, _, rfl, SqT.of hra, rfl, _, _, rfl, _, _, rfl, _, _, rfl, _, _, rfl, rfl, _, rfl, f, rfl, h1, _, rfl, iteF ⟨_, rfl, _, _, rfl, rfl, _, _, rfl, by omega, by omega, _, rfl, iteF ⟨_, rfl, _, rfl, pa, _, rfl, .inl (SqL.of hpa), _, _, rfl, by omega, by rw [lenI]; omega, _, rfl, iteF ?_⟩⟩⟩
      exact ⟨_, rfl, _, rfl, pa, _, _, _, rfl, rfl, SqL.of hpa, ints_at h3, _, rfl, _, _, rfl, rfl, q⟩
theorem sc_sum_point : FnScope ["row", "points", "given", "word", "one", "other"] ["row", "points", "given"] (defScope s_sum_point) := ⟨rfl, rfl, rfl, by decide +kernel, rfl, by decide +kernel, by decide +kernel⟩
theorem ok_sum_point_plus {f : Addr} {fd : FuncData} (z : Zs mg) (c_is_place : Cal P w K mg base 2 "is_place" ["thing", "many"] spPlace) (F : Fun K "sum_point" "sum_point" s_sum_point f fd) : FnOk P w K mg base CX0 3 f fd ["row", "points", "given"] (spRule .plus) := by
  refine F.ok sc_sum_point (fun vs H Q E h => ?_) (fun cdv A outer s H vs Q E hr h => ?_)
  · obtain ⟨ra, pa, gv, r, en, hp, fp, pts, rfl, _⟩ := h
    rfl
  · obtain ⟨ra, pa, gv, r, en, hp, fp, pts, rfl, hra, hk, hpa, ⟨ha, fa, hgv, hha, hfa⟩, hok, q⟩ := h
    refine ⟨_, (pss_cons (ps_asg (pv 0) (pg_tup (by rfl) (pgs_cons (pg_name (i := 3) sc_sum_point.nd rfl (.inl rfl)) (pgs_cons (pg_name (i := 4) sc_sum_point.nd rfl (.inl rfl)) (pgs_cons (pg_name (i := 5) sc_sum_point.nd rfl (.inl rfl)) pgs_nil)))))
      (pss_cons (ps_if (PW.pt (pw_or (pt_not (pt_val (pe_cal c_is_place hr (pa_cons (pv 4) (pa_cons (pe_callB call_len_seq (by rfl) z.len PySem.boot_len (pa_cons (pv 1) pa_nil)) pa_nil))))) (pw_or1 (pt_not (pt_val (pe_cal c_is_place hr (pa_cons (pv 5) (pa_cons (pe_callB call_len_seq (by rfl) z.len PySem.boot_len (pa_cons (pv 1) pa_nil)) pa_nil)))))))) (pss_one (ps_ret pe_non)) pss_nil)
      (pss_one (ps_ret (pe_callB (call_max2 rfl) (by rfl) z.max (by decide +kernel) (pa_cons (pe_ix ix_list (pv 1) (pv 4) (fun _ _ => rfl)) (pa_cons (pe_ix ix_list (pv 1) (pv 5) (fun _ _ => rfl)) pa_nil))))))), ?_⟩
    match r, hk, hok, hra, q with
    | .plus a b, _, hok, hra, q =>
      obtain ⟨h1, h2⟩ := hok
      refine ⟨_, rfl, ra, _, rfl, SqT.of hra, rfl, _, _, rfl, _, _, rfl, _, _, rfl, rfl, _, rfl, _, rfl, pa, _, rfl, .inl (SqL.of hpa), _, _, rfl, by omega, by rw [lenI]; omega, _, rfl, iteF ⟨_, rfl, _, rfl, pa, _, rfl, .inl (SqL.of hpa), _, _, rfl, by omega, by rw [lenI]; omega, _, rfl, iteF ?_⟩⟩
      exact ⟨_, rfl, _, rfl, pa, _, _, _, rfl, rfl, SqL.of hpa, ints_at h1, _, rfl, _, rfl, pa, _, _, _, rfl, rfl, SqL.of hpa, ints_at h2, _, _, rfl, q⟩
theorem ok_sum_point_less {f : Addr} {fd : FuncData} (z : Zs mg) (c_is_place : Cal P w K mg base 2 "is_place" ["thing", "many"] spPlace) (F : Fun K "sum_point" "sum_point" s_sum_point f fd) : FnOk P w K mg base CX0 3 f fd ["row", "points", "given"] (spRule .less) := by
  refine F.ok sc_sum_point (fun vs H Q E h => ?_) (fun cdv A outer s H vs Q E hr h => ?_)
  · obtain ⟨ra, pa, gv, r, en, hp, fp, pts, rfl, _⟩ := h
    rfl
  · obtain ⟨ra, pa, gv, r, en, hp, fp, pts, rfl, hra, hk, hpa, ⟨ha, fa, hgv, hha, hfa⟩, hok, q⟩ := h
    refine ⟨_, (pss_cons (ps_asg (pv 0) (pg_tup (by rfl) (pgs_cons (pg_name (i := 3) sc_sum_point.nd rfl (.inl rfl)) (pgs_cons (pg_name (i := 4) sc_sum_point.nd rfl (.inl rfl)) (pgs_cons (pg_name (i := 5) sc_sum_point.nd rfl (.inl rfl)) pgs_nil)))))
      (pss_cons (ps_if (PW.pt (pw_or (pt_not (pt_val (pe_cal c_is_place hr (pa_cons (pv 4) (pa_cons (pe_callB call_len_seq (by rfl) z.len PySem.boot_len (pa_cons (pv 1) pa_nil)) pa_nil))))) (pw_or1 (pt_not (pt_val (pe_cal c_is_place hr (pa_cons (pv 5) (pa_cons (pe_callB call_len_seq (by rfl) z.len PySem.boot_len (pa_cons (pv 1) pa_nil)) pa_nil)))))))) (pss_one (ps_ret pe_non)) pss_nil)
      (pss_one (ps_ret (pe_callB (call_max2 rfl) (by rfl) z.max (by decide +kernel) (pa_cons (pe_ix ix_list (pv 1) (pv 4) (fun _ _ => rfl)) (pa_cons (pe_ix ix_list (pv 1) (pv 5) (fun _ _ => rfl)) pa_nil))))))), ?_⟩
    match r, hk, hok, hra, q with
    | .less a b, _, hok, hra, q =>
      obtain ⟨h1, h2⟩ := hok
      refine ⟨_, rfl, ra, _, rfl, SqT.of hra, rfl, _, _, rfl, _, _, rfl, _, _, rfl, rfl, _, rfl, _, rfl, pa, _, rfl, .inl (SqL.of hpa), _, _, rfl, by omega, by rw [lenI]; omega, _, rfl, iteF ⟨_, rfl, _, rfl, pa, _, rfl, .inl (SqL.of hpa), _, _, rfl, by omega, by rw [lenI]; omega, _, rfl, iteF ?_⟩⟩
      exact ⟨_, rfl, _, rfl, pa, _, _, _, rfl, rfl, SqL.of hpa, ints_at h1, _, rfl, _, rfl, pa, _, _, _, rfl, rfl, SqL.of hpa, ints_at h2, _, _, rfl, q⟩
theorem sc_move_point : FnScope ["row", "points", "given", "word", "many", "at"] ["row", "points", "given"] (defScope s_move_point) := ⟨rfl, rfl, rfl, by decide +kernel, rfl, by decide +kernel, by decide +kernel⟩
theorem ok_move_point {f : Addr} {fd : FuncData} (NC : NCst mg) (z : Zs mg) (c_is_whole : Cal P w K mg base 1 "is_whole" ["thing"] (spWhole K)) (c_is_place : Cal P w K mg base 2 "is_place" ["thing", "many"] spPlace) (F : Fun K "move_point" "move_point" s_move_point f fd) : FnOk P w K mg base CX0 3 f fd ["row", "points", "given"] (spRule .move) := by
  refine F.ok sc_move_point (fun vs H Q E h => ?_) (fun cdv A outer s H vs Q E hr h => ?_)
  · obtain ⟨ra, pa, gv, r, en, hp, fp, pts, rfl, _⟩ := h
    rfl
  · obtain ⟨ra, pa, gv, r, en, hp, fp, pts, rfl, hra, hk, hpa, ⟨ha, fa, hgv, hha, hfa⟩, hok, q⟩ := h
    refine ⟨_, (pss_cons (ps_asg (pv 0) (pg_tup (by rfl) (pgs_cons (pg_name (i := 3) sc_move_point.nd rfl (.inl rfl)) (pgs_cons (pg_name (i := 4) sc_move_point.nd rfl (.inl rfl)) (pgs_cons (pg_name (i := 5) sc_move_point.nd rfl (.inl rfl)) pgs_nil)))))
      (pss_cons (ps_if (PW.pt (pw_or (pt_not (pt_val (pe_cal c_is_whole hr (pa_cons (pv 4) pa_nil)))) (pw_or (pt_cmpR op_gt (pe_callB call_abs (by rfl) z.abs (by decide +kernel) (pa_cons (pv 4) pa_nil)) (pe_glob (v := .int 64) (by rfl) NC.gs.choose_spec ⟨_, rfl⟩) (nomark _)) (pw_or1 (pt_not (pt_val (pe_cal c_is_place hr (pa_cons (pv 5) (pa_cons (pe_callB call_len_seq (by rfl) z.len PySem.boot_len (pa_cons (pv 1) pa_nil)) pa_nil))))))))) (pss_one (ps_ret pe_non)) pss_nil)
      (pss_one (ps_ret (pe_op op_sub (pe_ix ix_list (pv 1) (pv 5) (fun _ _ => rfl)) (pv 4)))))), ?_⟩
    match r, hk, hok, hra, q with
    | .move m a, _, hok, hra, q =>
      obtain ⟨h1, h2⟩ := hok
      refine ⟨_, rfl, ra, _, rfl, SqT.of hra, rfl, _, _, rfl, _, _, rfl, _, _, rfl, rfl, _, rfl, _, true, rfl, .inl ⟨m, rfl, rfl⟩, _, rfl, iteF ⟨_, rfl, _, rfl, _, _, rfl, rfl, _, rfl, iteC (d := false) (decide_eq_false (by split <;> omega)) (iteF ⟨_, rfl, _, rfl, pa, _, rfl, .inl (SqL.of hpa), _, _, rfl, by omega, by rw [lenI]; omega, _, rfl, iteF ?_⟩)⟩⟩
      exact ⟨_, rfl, _, rfl, pa, _, _, _, rfl, rfl, SqL.of hpa, ints_at h2, _, rfl, _, _, rfl, rfl, q⟩
theorem sc_keep_point : FnScope ["row", "points", "given", "word", "form", "at", "form_points"] ["row", "points", "given"] (defScope s_keep_point) := ⟨rfl, rfl, rfl, by decide +kernel, rfl, by decide +kernel, by decide +kernel⟩
theorem ok_keep_point {f : Addr} {fd : FuncData} (z : Zs mg) (c_is_place : Cal P w K mg base 2 "is_place" ["thing", "many"] spPlace) (F : Fun K "keep_point" "keep_point" s_keep_point f fd) : FnOk P w K mg base CX0 3 f fd ["row", "points", "given"] (spRule .keep) := by
  refine F.ok sc_keep_point (fun vs H Q E h => ?_) (fun cdv A outer s H vs Q E hr h => ?_)
  · obtain ⟨ra, pa, gv, r, en, hp, fp, pts, rfl, _⟩ := h
    rfl
  · obtain ⟨ra, pa, gv, r, en, hp, fp, pts, rfl, hra, hk, hpa, ⟨ha, fa, hgv, hha, hfa⟩, hok, q⟩ := h
    refine ⟨_, (pss_cons (ps_asg (pv 0) (pg_tup (by rfl) (pgs_cons (pg_name (i := 3) sc_keep_point.nd rfl (.inl rfl)) (pgs_cons (pg_name (i := 4) sc_keep_point.nd rfl (.inl rfl)) (pgs_cons (pg_name (i := 5) sc_keep_point.nd rfl (.inl rfl)) pgs_nil)))))
      (pss_cons (ps_set (i := 6) sc_keep_point.nd rfl (.inl rfl) (pe_ix ix_tup (pv 2) pe_int (fun _ _ => rfl)))
      (pss_cons (ps_if (PW.pt (pw_or (pt_not (pt_val (pe_cal c_is_place hr (pa_cons (pv 4) (pa_cons (pe_callB call_len_seq (by rfl) z.len PySem.boot_len (pa_cons (pv 6) pa_nil)) pa_nil))))) (pw_or1 (pt_not (pt_val (pe_cal c_is_place hr (pa_cons (pv 5) (pa_cons (pe_callB call_len_seq (by rfl) z.len PySem.boot_len (pa_cons (pv 1) pa_nil)) pa_nil)))))))) (pss_one (ps_ret pe_non)) pss_nil)
      (pss_one (ps_ret (pe_ix ix_list (pv 6) (pv 4) (fun _ _ => rfl))))))), ?_⟩
    match r, hk, hok, hra, q with
    | .keep f a, _, hok, hra, q =>
      obtain ⟨h1, h2⟩ := hok
      refine ⟨_, rfl, ra, _, rfl, SqT.of hra, rfl, _, _, rfl, _, _, rfl, _, _, rfl, rfl, _, rfl, gv, _, 2, .ref fa, rfl, rfl, SqT.of hgv, a2, _, rfl, _, rfl, fa, _, rfl, .inl (SqL.of hfa), _, _, rfl, by omega, by rw [lenI]; omega, _, rfl, iteF ⟨_, rfl, _, rfl, pa, _, rfl, .inl (SqL.of hpa), _, _, rfl, by omega, by rw [lenI]; omega, _, rfl, iteF ?_⟩⟩
      exact ⟨_, rfl, _, rfl, fa, _, _, _, rfl, rfl, SqL.of hfa, ints_at h1, q⟩
theorem sc_is_written_as_row : FnScope ["thing"] ["thing"] (defScope s_is_written_as_row) := ⟨rfl, rfl, rfl, by decide +kernel, rfl, by decide +kernel, by decide +kernel⟩
theorem ok_is_written_as_row {f : Addr} {fd : FuncData} {k : Nat} {dL : Addr} {eL : Array DictEntry} {nL : Nat} (LE : Lens w K mg dL eL nL) (F : Fun K "is_written_as_row" "is_written_as_row" s_is_written_as_row f fd) (z : Zs mg) : FnOk P w K mg base CX0 (k + 1) f fd ["thing"] spWritten := by
  refine F.ok sc_is_written_as_row (fun vs H Q E h => ?_) (fun cdv A outer s H vs Q E hr h => ?_)
  · obtain ⟨ra, r, rfl, _⟩ := h
    rfl
  · obtain ⟨ra, r, rfl, hra, q⟩ := h
    refine ⟨_, (pss_cons (ps_if (PW.pt (pw_or (pt_not (pt_val (pe_callB call_isi (by rfl) z.isinstance (by decide +kernel) (pa_cons (pv 0) (pa_cons (pe_bltn (v := .ty "tuple") (by rfl) z.tuple (by decide +kernel) rfl) pa_nil))))) (pw_or (pt_not (pt_truth (pv 0) (by intro _; rfl))) (pw_or1 (pt_not (pt_val (pe_callB call_isi (by rfl) z.isinstance (by decide +kernel) (pa_cons (pe_ix ix_tup (pv 0) pe_int (fun _ _ => rfl)) (pa_cons (pe_bltn (v := .ty "str") (by rfl) z.str (by decide +kernel) rfl) pa_nil))))))))) (pss_one (ps_ret pe_bl)) pss_nil)
      (pss_one (ps_ret (pe_and (pe_cmpR (op_in_kd LE.D) (pe_ix ix_tup (pv 0) pe_int (fun _ _ => rfl)) (pe_glob (v := .ref dL) (by rfl) LE.gm rfl) (by rfl)) (pe_one (pe_cmpR op_eq (pe_callB call_len_seq (by rfl) z.len PySem.boot_len (pa_cons (pv 0) pa_nil)) (pe_ix ix_kdict (pe_glob (v := .ref dL) (by rfl) LE.gm rfl) (pe_ix ix_tup (pv 0) pe_int (fun _ _ => rfl)) (fun _ _ => rfl)) (nomark _))))))), ?_⟩
    obtain ⟨t, hL⟩ := LE.at_ r.kd
    have l0 : (!r.vs.isEmpty) = true := by cases r <;> rfl
    refine ⟨_, rfl, _, .ty "tuple", _, _, true, rfl, .ty _, .base (.tup hra), kit_ty (by decide +kernel), _, rfl, iteF ⟨_, rfl, true, .inr (.inl ⟨_, SqT.of hra, l0.symm⟩), iteF ⟨_, rfl, ra, _, 0, .str r.kd.s, rfl, rfl, SqT.of hra, atI_nat (j := 0) r.vs0, _, .ty "str", _, _, true, rfl, .ty _, .base (.str _), kit_ty (by decide +kernel), _, rfl, iteF ?_⟩⟩⟩
    refine ⟨_, rfl, ra, _, 0, .str r.kd.s, rfl, rfl, SqT.of hra, atI_nat (j := 0) r.vs0, _, _, rfl, rfl, hL, _, rfl, iteT ⟨_, rfl, ra, _, rfl, .inr (SqT.of hra), _, rfl, ra, _, 0, .str r.kd.s, rfl, rfl, SqT.of hra, atI_nat (j := 0) r.vs0, dL, r.kd.s, .int (r.kd.n : Int), rfl, rfl, ⟨eL, nL, _, LE.D.at_, LE.D.lit, hL, ⟨_, rfl⟩⟩, rfl, ?_⟩⟩
    rw [r.vs_len, decide_eq_true rfl]
    exact q
theorem sc_row_point : FnScope ["row", "points", "given", "rule", "point"] ["row", "points", "given"] (defScope s_row_point) := ⟨rfl, rfl, rfl, by decide +kernel, rfl, by decide +kernel, by decide +kernel⟩
theorem ok_row_point {f : Addr} {fd : FuncData} {dP : Addr} {eP : Array DictEntry} {nP : Nat} (RU : Ruls P w K mg base dP eP nP) (NC : NCst mg) (F : Fun K "row_point" "row_point" s_row_point f fd) (z : Zs mg) (c_is_written_as_row : Cal P w K mg base 1 "is_written_as_row" ["thing"] spWritten) : FnOk P w K mg base CX0 4 f fd ["row", "points", "given"] spRowPt := by
  refine F.ok sc_row_point (fun vs H Q E h => ?_) (fun cdv A outer s H vs Q E hr h => ?_)
  · obtain ⟨ra, pa, gv, r, en, hp, fp, pts, rfl, _⟩ := h
    rfl
  · obtain ⟨ra, pa, gv, r, en, hp, fp, pts, rfl, hra, hpa, hg, hok, p0, p1, q⟩ := h
    obtain ⟨fR, fdR, h1, hK, hB, hF⟩ := RU.at_ r.kd
    refine ⟨_, (pss_cons (ps_if (pt_not (pt_val (pe_cal c_is_written_as_row hr (pa_cons (pv 0) pa_nil)))) (pss_one (ps_ret pe_non)) pss_nil)
      (pss_cons (ps_set (i := 3) sc_row_point.nd rfl (.inl rfl) (pe_ix ix_kdict (pe_glob (v := .ref dP) (by rfl) RU.gm rfl) (pe_ix ix_tup (pv 0) pe_int (fun _ _ => rfl)) (fun _ _ => rfl)))
      (pss_cons (ps_set (i := 4) sc_row_point.nd rfl (.inl rfl) (pe_callL (i := 3) hF hr rfl (Or.inl rfl) hK hB .nil pass0 (pa_cons (pv 0) (pa_cons (pv 1) (pa_cons (pv 2) pa_nil)))))
      (pss_one (ps_ret (pe_ifExp (PW.pt (pw_and (pt_cmpR op_notN (pv 4) pe_non (nomark _)) (pw_and1 (pt_cmpR op_le (pe_callB call_abs (by rfl) z.abs (by decide +kernel) (pa_cons (pv 4) pa_nil)) (pe_glob (v := .int 200) (by rfl) NC.gr.choose_spec ⟨_, rfl⟩) (nomark _))))) (pv 4) pe_non)))))), ?_⟩
    refine ⟨_, rfl, ra, r, rfl, hra, _, rfl, iteF ?_⟩
    refine ⟨_, rfl, ra, _, 0, .str r.kd.s, rfl, rfl, SqT.of hra, atI_nat (j := 0) r.vs0, dP, r.kd.s, .ref fR, rfl, rfl, ⟨eP, nP, _, RU.D.at_, RU.D.lit, h1, rfl⟩, ?_⟩
    refine ⟨rfl, _, rfl, _, rfl, _, rfl, ra, pa, gv, r, en, hp, fp, pts, rfl, hra, rfl, hpa, hg, hok, ?_⟩
    refine ⟨_, rfl, rfl, _, rfl, iteT ⟨_, rfl, _, rfl, _, _, rfl, rfl, _, rfl, iteC (d := true) (decide_eq_true (by split <;> omega)) (iteT ⟨_, rfl, q⟩)⟩⟩
end
end E1

namespace E1
open PySem PySem.Spec PyProof.Rows L2

/-- what the written part says of the class of forms -/
structure IsC (K : PySem.W.Frag) (mg : Str → Option Value) (C : Addr) : Prop where
  gC : mg "Form" = some (.ref C)
  ha : PySem.W.findIn K (.ref C) "__class__" = some (some (.builtin "object.__class__"))
  hn : PySem.W.specialIn K (.builtin "object.__class__") "__get__" = some (some (.builtin "getset_descriptor.__get__"))
  ht : PySem.W.takesIn K (.builtin "object.__class__") = some true
  hm : PySem.W.mroIn K C (.type "object") = some true
  kC : PySem.W.kitOne K (.ref C) (.ref C) = some true
def spLen4 : Sp := fun vs H Q _ => ∃ (a : Addr) (xs : List V) (z : Str) (lo hi : Int), vs = [.ref a, .str z, .int lo, .int hi] ∧ H a = some (.lst xs) ∧ lo ≤ xs.length ∧ (xs.length : Int) ≤ hi ∧ Q .non H
def spCkForms (C : Addr) : Sp := fun vs H Q _ => ∃ (a : Addr) (fv : List V) (fs : List FormP), vs = [.ref a] ∧ H a = some (.lst fv) ∧ FsAt C H fv fs ∧ 1 ≤ fs.length ∧ fs.length ≤ 12 ∧ ∀ H', Same H H' → Q .non H'
def spIsHold (C : Addr) : Sp := fun vs H Q _ => ∃ (ta a : Addr) (fv : List V) (fs : List FormP) (h : Hold) (f : FormP), vs = [.ref ta, .ref a] ∧ H ta = some (.tup h.vs) ∧ H a = some (.lst fv) ∧ FsAt C H fv fs ∧ fs[h.k]? = some f ∧ inR f.w h.s = true ∧ Q (.bl true) H
def spCkHolds (C : Addr) : Sp := fun vs H Q _ => ∃ (b a : Addr) (hv fv : List V) (fs : List FormP) (hs : List Hold), vs = [.ref b, .ref a] ∧ H b = some (.lst hv) ∧ TsAt H hv (hs.map Hold.vs) ∧ H a = some (.lst fv) ∧ FsAt C H fv fs ∧ hs.length ≤ 6 ∧ (∀ h ∈ hs, h.k < fs.length ∧ ∀ f, fs[h.k]? = some f → inR f.w h.s = true) ∧ ∀ H', Same H H' → Q .non H'
def spCkPts : Sp := fun vs H Q _ => ∃ (ra gv : Addr) (rv : List V) (rows : List Row) (en : Int) (hp fp : List Int), vs = [.ref ra, .ref gv] ∧ H ra = some (.lst rv) ∧ TsAt H rv (rows.map Row.vs) ∧ GivenAt H gv en hp fp ∧ 1 ≤ rows.length ∧ rows.length ≤ 60 ∧ (∀ i r, rows[i]? = some r → RowOk hp.length fp.length i r) ∧ (∀ p ∈ ptsOf en hp fp rows, -200 ≤ p ∧ p ≤ 200) ∧
  ∀ p H', Same H H' → H p = none → H' p = some (.lst ((ptsOf en hp fp rows).map V.int)) → Q (.ref p) H'
def spCkLinks : Sp := fun vs H Q _ => ∃ (b ra : Addr) (hv rv : List V) (hs : List Hold) (rows : List Row), vs = [.ref b, .ref ra] ∧ H b = some (.lst hv) ∧ TsAt H hv (hs.map Hold.vs) ∧ H ra = some (.lst rv) ∧ TsAt H rv (rows.map Row.vs) ∧ (∀ h ∈ hs, ∃ a, rows[h.l]? = some (.keep h.k a)) ∧ ∀ H', Same H H' → Q .non H'
def spNetInit (C CN : Addr) : Sp := fun vs H Q _ => ∃ (p dx fl rl hl : Addr) (n : NetP) (fv rv hv : List V), vs = [.ref p, .ref fl, .int n.en, .ref rl, .ref hl, .int n.out] ∧ H p = some (.ins CN dx []) ∧ H fl = some (.lst fv) ∧ FsAt C H fv n.fs ∧ H rl = some (.lst rv) ∧ TsAt H rv (n.rows.map Row.vs) ∧ H hl = some (.lst hv) ∧ TsAt H hv (n.holds.map Hold.vs) ∧ NetOk n ∧
  ∀ H', NetAt C CN H' p n → (∀ b o, b ≠ p → H b = some o → H' b = some o) → Q .non H'
theorem GivenAt.same {H H' : Hp} {gv : Addr} {en : Int} {hp fp : List Int} (h : GivenAt H gv en hp fp) (s : Same H H') : GivenAt H' gv en hp fp := by
  obtain ⟨ha, fa, a, b, c⟩ := h
  exact ⟨ha, fa, s _ _ a, s _ _ b, s _ _ c⟩
theorem ptsOf_next {en : Int} {hp fp : List Int} {rows : List Row} {i : Nat} {r : Row} (h : rows[i]? = some r) : ptsOf en hp fp (rows.take (i + 1)) = ptsOf en hp fp (rows.take i) ++ [rowPt en hp fp (ptsOf en hp fp (rows.take i)) r] := by
  rw [List.take_add_one, h, Option.toList_some, ptsOf_snoc]
theorem ptsOf_in {en : Int} {hp fp : List Int} {rows : List Row} {i : Nat} {r : Row} (h : rows[i]? = some r) : rowPt en hp fp (ptsOf en hp fp (rows.take i)) r ∈ ptsOf en hp fp rows := by
  have e := ptsOf_take en hp fp rows (i + 1)
  rw [ptsOf_next h] at e
  have : rowPt en hp fp (ptsOf en hp fp (rows.take i)) r ∈ (ptsOf en hp fp rows).take (i + 1) := by
    rw [e]
    exact List.mem_append.mpr (.inr (List.mem_singleton.mpr rfl))
  exact List.mem_of_mem_take this
theorem putF_app {k : Str} {v : V} : ∀ {l : List (Str × V)}, ((l.map (·.1)).all fun x => decide (x ≠ k)) = true → putF k v l = l ++ [(k, v)]
  | [], _ => rfl
  | (g, x) :: r, h => by
    rw [List.map_cons, List.all_cons, Bool.and_eq_true, decide_eq_true_eq] at h
    show (if g = k then (g, v) :: r else (g, x) :: putF k v r) = _
    rw [if_neg h.1, putF_app h.2]
    rfl
theorem kp_lay (k : Int) : PyData.canLay0 (.tuple [.str "keep", .int k]) = true := by
  simp only [PyData.canLay0, PyData.canLayAll0, Bool.and_true]
  decide +kernel
theorem kp_shaped (k : Int) : SeqAt.shaped (.tuple [.str "keep", .int k]) = true := by
  show (PyData.canLay0 (.tuple [.str "keep", .int k]) && decide (PyData.depth (.tuple [.str "keep", .int k]) ≤ 64)) = true
  rw [kp_lay, Bool.true_and]
  simp only [PyData.depth, PyData.depthAll]
  rfl
def fks : List Str := ["form_list", "enters_at", "row_list", "hold_list", "out_at", "point_list"]
theorem fks_new : ∀ i : Fin 6, ((fks.take i.val).all fun x => decide (x ≠ fks[i.val]'i.isLt)) = true := by decide +kernel
theorem nf0 {a : V} : putF "form_list" a [] = [(("form_list" : Str), a)] := rfl
theorem nf1 {a b : V} : putF "enters_at" b [(("form_list" : Str), a)] = [(("form_list" : Str), a), ("enters_at", b)] := putF_app (fks_new 1)
theorem nf2 {a b c : V} : putF "row_list" c [(("form_list" : Str), a), ("enters_at", b)] = [(("form_list" : Str), a), ("enters_at", b), ("row_list", c)] := putF_app (fks_new 2)
theorem nf3 {a b c d : V} : putF "hold_list" d [(("form_list" : Str), a), ("enters_at", b), ("row_list", c)] = [(("form_list" : Str), a), ("enters_at", b), ("row_list", c), ("hold_list", d)] := putF_app (fks_new 3)
theorem nf4 {a b c d e : V} : putF "out_at" e [(("form_list" : Str), a), ("enters_at", b), ("row_list", c), ("hold_list", d)] = [(("form_list" : Str), a), ("enters_at", b), ("row_list", c), ("hold_list", d), ("out_at", e)] := putF_app (fks_new 4)
theorem nf5 {a b c d e f : V} : putF "point_list" f [(("form_list" : Str), a), ("enters_at", b), ("row_list", c), ("hold_list", d), ("out_at", e)] = [(("form_list" : Str), a), ("enters_at", b), ("row_list", c), ("hold_list", d), ("out_at", e), ("point_list", f)] := putF_app (fks_new 5)
section
variable {P : Program} {w : World} {K : PySem.W.Frag} {mg : Str → Option Value} {base : Heap}
theorem sc_check_length : FnScope ["thing", "part", "least", "most"] ["thing", "part", "least", "most"] (defScope s_check_length) := ⟨rfl, rfl, rfl, by decide +kernel, rfl, by decide +kernel, by decide +kernel⟩
theorem ok_check_length {f : Addr} {fd : FuncData} {k : Nat} (F : Fun K "check_length" "check_length" s_check_length f fd) (z : Zs mg) : FnOk P w K mg base CX0 (k + 1) f fd ["thing", "part", "least", "most"] spLen4 := by
  refine F.ok sc_check_length (fun vs H Q E h => ?_) (fun cdv A outer s H vs Q E hr h => ?_)
  · obtain ⟨a, xs, zz, lo, hi, rfl, _⟩ := h
    rfl
  · obtain ⟨a, xs, zz, lo, hi, rfl, ha, l0, l1, q⟩ := h
    refine ⟨_, (pss_one (ps_if (PW.pt (pw_or (pt_not (pt_val (pe_callB call_isi (by rfl) z.isinstance (by decide +kernel) (pa_cons (pv 0) (pa_cons (pe_bltn (v := .ty "list") (by rfl) z.list (by decide +kernel) rfl) pa_nil))))) (pw_or1 (pt_not (pt_chain op_le op_le (pv 2) (pe_callB call_len_seq (by rfl) z.len PySem.boot_len (pa_cons (pv 0) pa_nil)) (pv 3)))))) (pss_one ps_never) pss_nil)), ?_⟩
    refine ⟨_, rfl, _, .ty "list", _, _, true, rfl, .ty _, .base (.lst ha), kit_ty (by decide +kernel), _, rfl, iteF ⟨_, rfl, _, rfl, a, _, rfl, .inl (SqL.of ha), _, _, rfl, rfl, _, rfl, ?_⟩⟩
    refine iteC (d := true) (decide_eq_true l0) (iteT ⟨_, rfl, _, _, rfl, rfl, _, rfl, ?_⟩)
    exact iteC (d := false) (by rw [decide_eq_true (show (xs.length : Int) ≤ hi from l1)]; rfl) (iteF q)
theorem sc_check_forms : FnScope ["forms", "at", "form"] ["forms"] (defScope s_check_forms) := ⟨rfl, rfl, rfl, by decide +kernel, rfl, by decide +kernel, by decide +kernel⟩
theorem ok_check_forms {f : Addr} {fd : FuncData} {C : Addr} (T : FTxt K mg C) (IC : IsC K mg C) (NC : NCst mg) (F : Fun K "check_forms" "check_forms" s_check_forms f fd) (z : Zs mg) (c_check_length : Cal P w K mg base 1 "check_length" ["thing", "part", "least", "most"] spLen4) : FnOk P w K mg base CX0 2 f fd ["forms"] (spCkForms C) := by
  refine F.ok sc_check_forms (fun vs H Q E h => ?_) (fun cdv A outer s H vs Q E hr h => ?_)
  · obtain ⟨a, fv, fs, rfl, _⟩ := h
    rfl
  · obtain ⟨a, fv, fs, rfl, ha, hf, l0, l1, q⟩ := h
    refine ⟨_, (pss_cons (ps_expr (pe_cal c_check_length hr (pa_cons (pv 0) (pa_cons pe_str (pa_cons pe_int (pa_cons (pe_glob (v := .int 12) (by rfl) NC.mf.choose_spec ⟨_, rfl⟩) pa_nil))))))
      (pss_one (ps_for PassesOwn.never rfl (pi_enum (by rfl) z.enumerate (pa_cons (pv 0) pa_nil)) (pg_tup (by rfl) (pgs_cons (pg_name (i := 1) sc_check_forms.nd rfl (.inl rfl)) (pgs_cons (pg_name (i := 2) sc_check_forms.nd rfl (.inl rfl)) pgs_nil))) (pss_one (ps_if (pt_not (pt_val (pe_callB call_isi (by rfl) z.isinstance (by decide +kernel) (pa_cons (pv 2) (pa_cons (pe_glob (v := .ref C) (by rfl) IC.gC rfl) pa_nil))))) (pss_one ps_never) pss_nil))))), ?_⟩
    have ll := hf.len
    refine ⟨_, rfl, a, fv, _, _, _, rfl, ha, by omega, by omega, ?_⟩
    refine ⟨_, rfl, a, _, rfl, SqL.of ha, for_it (walk_enum (K := K) (a := a) (xs := fv)) (fun i σ H' => ∃ y3 y4 : Option V, σ = [some (.ref a), y3, y4] ∧ Same H H') ⟨none, none, rfl, Same.refl _⟩ (fun i σ H' _ hP => ?_) (fun i v σ H1 H2 hi hP hY => ?_) (fun σ H' hP => ?_)⟩
    · obtain ⟨y3, y4, rfl, s1⟩ := hP
      exact SqL.of (s1 _ _ ha)
    · obtain ⟨y3, y4, rfl, s1⟩ := hP
      obtain ⟨Tp, u, v', rfl, nT, rfl, e1, e2⟩ := hY
      cases e1
      obtain ⟨p, f, rfl, _, hp⟩ := hf.get e2
      have s2 := s1.trans (same_new (o := .tup [.int (i : Nat), .ref p]) nT)
      obtain ⟨dx, ho⟩ := (FormAt.same hp s2).ob
      refine ⟨Tp, _, rfl, SqT.of upd_same, rfl, _, _, rfl, _, _, rfl, rfl, ?_⟩
      exact ⟨_, rfl, _, .ref C, .ref C, .ref C, true, rfl, .own C, .base (.ins ho T.cl IC.ha IC.hn IC.ht IC.hm), IC.kC, _, rfl, iteF ⟨_, _, rfl, s2⟩⟩
    · obtain ⟨y3, y4, rfl, s1⟩ := hP
      exact q _ s1
theorem sc_is_hold : FnScope ["thing", "forms"] ["thing", "forms"] (defScope s_is_hold) := ⟨rfl, rfl, rfl, by decide +kernel, rfl, by decide +kernel, by decide +kernel⟩
theorem ok_is_hold {f : Addr} {fd : FuncData} {C : Addr} (T : FTxt K mg C) (F : Fun K "is_hold" "is_hold" s_is_hold f fd) (z : Zs mg) (c_is_place : Cal P w K mg base 2 "is_place" ["thing", "many"] spPlace) (m_has : CalM P w K mg base 2 C "has" ["self", "thing"] (spHas K C)) : FnOk P w K mg base CX0 3 f fd ["thing", "forms"] (spIsHold C) := by
  refine F.ok sc_is_hold (fun vs H Q E h => ?_) (fun cdv A outer s H vs Q E hr h => ?_)
  · obtain ⟨ta, a, fv, fs, h, f, rfl, _⟩ := h
    rfl
  · obtain ⟨ta, a, fv, fs, h, f, rfl, hta, ha, hf, hk, hin, q⟩ := h
    refine ⟨_, (pss_cons (ps_if (PW.pt (pw_or (pt_not (pt_val (pe_callB call_isi (by rfl) z.isinstance (by decide +kernel) (pa_cons (pv 0) (pa_cons (pe_bltn (v := .ty "tuple") (by rfl) z.tuple (by decide +kernel) rfl) pa_nil))))) (pw_or1 (pt_cmpR op_ne (pe_callB call_len_seq (by rfl) z.len PySem.boot_len (pa_cons (pv 0) pa_nil)) pe_int (nomark _))))) (pss_one (ps_ret pe_bl)) pss_nil)
      (pss_one (ps_ret (pe_and (pe_cal c_is_place hr (pa_cons (pe_ix ix_tup (pv 0) pe_int (fun _ _ => rfl)) (pa_cons (pe_callB call_len_seq (by rfl) z.len PySem.boot_len (pa_cons (pv 1) pa_nil)) pa_nil))) (pe_one (pe_calm (pe_ix ix_list (pv 1) (pe_ix ix_tup (pv 0) pe_int (fun _ _ => rfl)) (fun _ _ => rfl)) T.cl m_has hr (pa_cons (pe_ix ix_tup (pv 0) pe_int (fun _ _ => rfl)) pa_nil))))))), ?_⟩
    have ll := hf.len
    have kl : h.k < fs.length := (List.getElem?_eq_some_iff.mp hk).1
    obtain ⟨p, ep, fp⟩ := hf.at hk
    obtain ⟨dx, ho⟩ := fp.ob
    refine ⟨_, rfl, _, .ty "tuple", _, _, true, rfl, .ty _, .base (.tup hta), kit_ty (by decide +kernel), _, rfl, iteF ⟨_, rfl, ta, _, rfl, .inr (SqT.of hta), rfl, _, rfl, iteF ?_⟩⟩
    refine ⟨_, rfl, ta, _, 0, .int h.k, rfl, rfl, SqT.of hta, a0, _, rfl, a, _, rfl, .inl (SqL.of ha), _, _, rfl, by omega, by omega, _, rfl, iteT ?_⟩
    refine ⟨_, rfl, _, rfl, ta, _, 0, .int h.k, rfl, rfl, SqT.of hta, a0, a, _, _, .ref p, rfl, rfl, SqL.of ha, atI_nat ep, p, dx, _, rfl, ho, fl_no (by decide +kernel), _, rfl, ta, _, 1, .int h.s, rfl, rfl, SqT.of hta, a1, p, f.w, f.pt, f.m, f.st, .int h.s, _, rfl, fp, .inl ⟨_, rfl, rfl⟩, ?_⟩
    rw [hin]
    exact q
theorem sc_check_holds : FnScope ["holds", "forms", "at", "hold"] ["holds", "forms"] (defScope s_check_holds) := ⟨rfl, rfl, rfl, by decide +kernel, rfl, by decide +kernel, by decide +kernel⟩
theorem ok_check_holds {f : Addr} {fd : FuncData} {C : Addr} (NC : NCst mg) (F : Fun K "check_holds" "check_holds" s_check_holds f fd) (z : Zs mg) (c_check_length : Cal P w K mg base 1 "check_length" ["thing", "part", "least", "most"] spLen4) (c_is_hold : Cal P w K mg base 3 "is_hold" ["thing", "forms"] (spIsHold C)) : FnOk P w K mg base CX0 4 f fd ["holds", "forms"] (spCkHolds C) := by
  refine F.ok sc_check_holds (fun vs H Q E h => ?_) (fun cdv A outer s H vs Q E hr h => ?_)
  · obtain ⟨b, a, hv, fv, fs, hs, rfl, _⟩ := h
    rfl
  · obtain ⟨b, a, hv, fv, fs, hs, rfl, hb, ht, ha, hf, l1, ho, q⟩ := h
    refine ⟨_, (pss_cons (ps_expr (pe_cal c_check_length hr (pa_cons (pv 0) (pa_cons pe_str (pa_cons pe_int (pa_cons (pe_glob (v := .int 6) (by rfl) NC.mh.choose_spec ⟨_, rfl⟩) pa_nil))))))
      (pss_one (ps_for PassesOwn.never rfl (pi_enum (by rfl) z.enumerate (pa_cons (pv 0) pa_nil)) (pg_tup (by rfl) (pgs_cons (pg_name (i := 2) sc_check_holds.nd rfl (.inl rfl)) (pgs_cons (pg_name (i := 3) sc_check_holds.nd rfl (.inl rfl)) pgs_nil))) (pss_one (ps_if (pt_not (pt_val (pe_cal c_is_hold hr (pa_cons (pv 3) (pa_cons (pv 1) pa_nil))))) (pss_one ps_never) pss_nil))))), ?_⟩
    have ll := ht.len
    rw [List.length_map] at ll
    refine ⟨_, rfl, b, hv, _, _, _, rfl, hb, by omega, by omega, ?_⟩
    refine ⟨_, rfl, b, _, rfl, SqL.of hb, for_it (walk_enum (K := K) (a := b) (xs := hv)) (fun i σ H' => ∃ y3 y4 : Option V, σ = [some (.ref b), some (.ref a), y3, y4] ∧ Same H H') ⟨none, none, rfl, Same.refl _⟩ (fun i σ H' _ hP => ?_) (fun i v σ H1 H2 hi hP hY => ?_) (fun σ H' hP => ?_)⟩
    · obtain ⟨y3, y4, rfl, s1⟩ := hP
      exact SqL.of (s1 _ _ hb)
    · obtain ⟨y3, y4, rfl, s1⟩ := hP
      obtain ⟨Tp, u, v', rfl, nT, rfl, e1, e2⟩ := hY
      cases e1
      obtain ⟨p, xs, rfl, ex, hp⟩ := ht.get e2
      rw [List.getElem?_map] at ex
      obtain ⟨hh, eh, rfl⟩ := Option.map_eq_some_iff.mp ex
      obtain ⟨o1, o2⟩ := ho hh (List.mem_of_getElem? eh)
      have s2 := s1.trans (same_new (o := .tup [.int (i : Nat), .ref p]) nT)
      refine ⟨Tp, _, rfl, SqT.of upd_same, rfl, _, _, rfl, _, _, rfl, rfl, ?_⟩
      refine ⟨_, rfl, _, rfl, p, a, fv, fs, hh, fs[hh.k], rfl, s2 _ _ hp, s2 _ _ ha, hf.same s2, List.getElem?_eq_getElem o1, o2 _ (List.getElem?_eq_getElem o1), _, rfl, iteF ⟨_, _, rfl, s2⟩⟩
    · obtain ⟨y3, y4, rfl, s1⟩ := hP
      exact q _ s1
theorem sc_checked_points : FnScope ["rows", "given", "points", "at", "row", "point"] ["rows", "given"] (defScope s_checked_points) := ⟨rfl, rfl, rfl, by decide +kernel, rfl, by decide +kernel, by decide +kernel⟩
theorem ok_checked_points {f : Addr} {fd : FuncData} (NC : NCst mg) (F : Fun K "checked_points" "checked_points" s_checked_points f fd) (z : Zs mg) (c_check_length : Cal P w K mg base 1 "check_length" ["thing", "part", "least", "most"] spLen4) (c_row_point : Cal P w K mg base 4 "row_point" ["row", "points", "given"] spRowPt) : FnOk P w K mg base CX0 5 f fd ["rows", "given"] spCkPts := by
  refine F.ok sc_checked_points (fun vs H Q E h => ?_) (fun cdv A outer s H vs Q E hr h => ?_)
  · obtain ⟨ra, gv, rv, rows, en, hp, fp, rfl, _⟩ := h
    rfl
  · obtain ⟨ra, gv, rv, rows, en, hp, fp, rfl, hra, hrs, hg, l0, l1, ro, po, q⟩ := h
    refine ⟨_, (pss_cons (ps_expr (pe_cal c_check_length hr (pa_cons (pv 0) (pa_cons pe_str (pa_cons pe_int (pa_cons (pe_glob (v := .int 60) (by rfl) NC.mr.choose_spec ⟨_, rfl⟩) pa_nil))))))
      (pss_cons (ps_set (i := 2) sc_checked_points.nd rfl (.inl rfl) (pe_lst pa_nil))
      (pss_cons (ps_for PassesOwn.never rfl (pi_enum (by rfl) z.enumerate (pa_cons (pv 0) pa_nil)) (pg_tup (by rfl) (pgs_cons (pg_name (i := 3) sc_checked_points.nd rfl (.inl rfl)) (pgs_cons (pg_name (i := 4) sc_checked_points.nd rfl (.inl rfl)) pgs_nil))) (pss_cons (ps_set (i := 5) sc_checked_points.nd rfl (.inl rfl) (pe_cal c_row_point hr (pa_cons (pv 4) (pa_cons (pv 2) (pa_cons (pv 1) pa_nil)))))
      (pss_cons (ps_if (pt_cmpR op_isN (pv 5) pe_non (nomark _)) (pss_one ps_never) pss_nil)
      (pss_one (ps_expr (pe_bm PySem.F.plainAttrs_list PySem.F.slot_list_append PySem.F.type_list_append mt_append (pv 2) (pa_cons (pv 5) pa_nil)))))))
      (pss_one (ps_ret (pv 2)))))), ?_⟩
    have ll := hrs.len
    rw [List.length_map] at ll
    refine ⟨_, rfl, ra, rv, _, _, _, rfl, hra, by omega, by omega, ?_⟩
    refine ⟨(by show 0 ≤ sizeLine; decide), fun pl hpl => ?_⟩
    generalize hG : upd _ pl _ = G0
    obtain ⟨s0, h_pl⟩ := upd_gen hG hpl
    refine ⟨_, rfl, ra, _, rfl, SqL.of (s0 _ _ hra), for_it (walk_enum (K := K) (a := ra) (xs := rv)) (fun i σ H' => ∃ y3 y4 y5 : Option V, σ = [some (.ref ra), some (.ref gv), some (.ref pl), y3, y4, y5] ∧ Same H H' ∧ H' pl = some (.lst ((ptsOf en hp fp (rows.take i)).map V.int))) ⟨none, none, none, rfl, s0, h_pl⟩ (fun i σ H' _ hP => ?_) (fun i v σ H1 H2 hi hP hY => ?_) (fun σ H' hP => ?_)⟩
    · obtain ⟨y3, y4, y5, rfl, s1, _⟩ := hP
      exact SqL.of (s1 _ _ hra)
    · obtain ⟨y3, y4, y5, rfl, s1, hl⟩ := hP
      obtain ⟨Tp, u, v', rfl, nT, rfl, e1, e2⟩ := hY
      cases e1
      obtain ⟨p, xs, rfl, ex, hp'⟩ := hrs.get e2
      rw [List.getElem?_map] at ex
      obtain ⟨r, er, rfl⟩ := Option.map_eq_some_iff.mp ex
      have sn := same_new (o := .tup [.int (i : Nat), .ref p]) nT
      have s2 := s1.trans sn
      have hl2 := sn _ _ hl
      have li : (ptsOf en hp fp (rows.take i)).length = i := by
        rw [ptsOf_len, List.length_take]
        have := (List.getElem?_eq_some_iff.mp er).1
        omega
      obtain ⟨b0, b1⟩ := po _ (ptsOf_in er)
      refine ⟨Tp, _, rfl, SqT.of upd_same, rfl, _, _, rfl, _, _, rfl, rfl, ?_⟩
      refine ⟨_, rfl, _, rfl, _, rfl, p, pl, gv, r, en, hp, fp, _, rfl, s2 _ _ hp', hl2, hg.same s2, by rw [li]; exact ro i r er, b0, b1, ?_⟩
      refine ⟨_, rfl, rfl, _, rfl, iteF ⟨_, rfl, .inl ⟨rfl, _, SqL.of hl2⟩, _, rfl, pl, _, _, rfl, rfl, hl2, ?_, ?_⟩⟩
      · rw [List.length_map, li]
        exact sl_lt (by omega)
      · refine ⟨_, _, _, rfl, fun b o e => ?_, ?_⟩
        · rw [upd_ne (ne_of_none e hpl)]
          exact s2 _ _ e
        · rw [upd_same, ptsOf_next er, List.map_append]
          rfl
    · obtain ⟨y3, y4, y5, rfl, s1, hl⟩ := hP
      rw [ll, List.take_length] at hl
      exact ⟨_, rfl, q pl _ s1 hpl hl⟩
theorem sc_check_links : FnScope ["holds", "rows", "at", "hold"] ["holds", "rows"] (defScope s_check_links) := ⟨rfl, rfl, rfl, by decide +kernel, rfl, by decide +kernel, by decide +kernel⟩
theorem ok_check_links {f : Addr} {fd : FuncData} (F : Fun K "check_links" "check_links" s_check_links f fd) (z : Zs mg) (c_is_place : Cal P w K mg base 2 "is_place" ["thing", "many"] spPlace) : FnOk P w K mg base CX0 3 f fd ["holds", "rows"] spCkLinks := by
  refine F.ok sc_check_links (fun vs H Q E h => ?_) (fun cdv A outer s H vs Q E hr h => ?_)
  · obtain ⟨b, ra, hv, rv, hs, rows, rfl, _⟩ := h
    rfl
  · obtain ⟨b, ra, hv, rv, hs, rows, rfl, hb, ht, hra, hrs, ho, q⟩ := h
    refine ⟨_, (pss_one (ps_for PassesOwn.never rfl (pi_enum (by rfl) z.enumerate (pa_cons (pv 0) pa_nil)) (pg_tup (by rfl) (pgs_cons (pg_name (i := 2) sc_check_links.nd rfl (.inl rfl)) (pgs_cons (pg_name (i := 3) sc_check_links.nd rfl (.inl rfl)) pgs_nil))) (pss_one (ps_if (PW.pt (pw_or (pt_not (pt_val (pe_cal c_is_place hr (pa_cons (pe_ix ix_tup (pv 3) pe_int (fun _ _ => rfl)) (pa_cons (pe_callB call_len_seq (by rfl) z.len PySem.boot_len (pa_cons (pv 1) pa_nil)) pa_nil))))) (pw_or1 (pt_cmpR (op_neD hr.units) (pe_slice sl_tup (pe_ix ix_list (pv 1) (pe_ix ix_tup (pv 3) pe_int (fun _ _ => rfl)) (fun _ _ => rfl)) po_none (po_some pe_int)) (pe_tup (pa_cons pe_str (pa_cons (pe_ix ix_tup (pv 3) pe_int (fun _ _ => rfl)) pa_nil))) (nomark _))))) (pss_one ps_never) pss_nil)))), ?_⟩
    have ll := hrs.len
    rw [List.length_map] at ll
    refine ⟨_, rfl, b, _, rfl, SqL.of hb, for_it (walk_enum (K := K) (a := b) (xs := hv)) (fun i σ H' => ∃ y3 y4 : Option V, σ = [some (.ref b), some (.ref ra), y3, y4] ∧ Same H H') ⟨none, none, rfl, Same.refl _⟩ (fun i σ H' _ hP => ?_) (fun i v σ H1 H2 hi hP hY => ?_) (fun σ H' hP => ?_)⟩
    · obtain ⟨y3, y4, rfl, s1⟩ := hP
      exact SqL.of (s1 _ _ hb)
    · obtain ⟨y3, y4, rfl, s1⟩ := hP
      obtain ⟨Tp, u, v', rfl, nT, rfl, e1, e2⟩ := hY
      cases e1
      obtain ⟨p, xs, rfl, ex, hp⟩ := ht.get e2
      rw [List.getElem?_map] at ex
      obtain ⟨hh, eh, rfl⟩ := Option.map_eq_some_iff.mp ex
      obtain ⟨a, ea⟩ := ho hh (List.mem_of_getElem? eh)
      have s2 := s1.trans (same_new (o := .tup [.int (i : Nat), .ref p]) nT)
      have al := (List.getElem?_eq_some_iff.mp ea).1
      obtain ⟨rp, erp, hrp⟩ := hrs.at (i := hh.l) (xs := (Row.keep hh.k a).vs) (by rw [List.getElem?_map, ea]; rfl)
      have hp2 := s2 _ _ hp
      refine ⟨Tp, _, rfl, SqT.of upd_same, rfl, _, _, rfl, _, _, rfl, rfl, ?_⟩
      refine ⟨_, rfl, p, _, 2, .int hh.l, rfl, rfl, SqT.of hp2, a2, _, rfl, ra, _, rfl, .inl (SqL.of (s2 _ _ hra)), _, _, rfl, by omega, by omega, _, rfl, iteF ?_⟩
      refine ⟨_, rfl, _, rfl, p, _, 2, .int hh.l, rfl, rfl, SqT.of hp2, a2, ra, _, _, .ref rp, rfl, rfl, SqL.of (s2 _ _ hra), atI_nat erp, _, rfl, rp, _, rfl, SqT.of (s2 _ _ hrp), (by show ¬ (HT.sIx 3 0 none = 0 ∧ HT.sIx 3 3 (some 2) = 3); decide), fun c1 hc1 => ?_⟩
      generalize hG : upd _ c1 _ = G1
      obtain ⟨s3, h_c1⟩ := upd_gen hG hc1
      refine ⟨_, rfl, p, _, 0, .int hh.k, rfl, rfl, SqT.of (s3 _ _ hp2), a0, (by show 2 ≤ sizeLine; decide), fun c2 hc2 => ?_⟩
      generalize hG2 : upd _ c2 _ = G2
      obtain ⟨s4, h_c2⟩ := upd_gen hG2 hc2
      refine ⟨.tuple [.str "keep", .int hh.k], .tuple [.str "keep", .int hh.k], .tup (SqT.of (s4 _ _ h_c1)) (.cons (.str _) (.cons (.int _) .nil)), .tup (SqT.of h_c2) (.cons (.str _) (.cons (.int _) .nil)), kp_shaped _, kp_shaped _, _, rfl, ?_⟩
      refine iteC (d := false) (by rw [SeqAt.eqv_refl _ (kp_lay _)]; rfl) (iteF ⟨_, _, rfl, (s2.trans s3).trans s4⟩)
    · obtain ⟨y3, y4, rfl, s1⟩ := hP
      exact q _ s1
end
end E1

namespace E1
open PySem PySem.Spec PyProof.Rows L2
abbrev s_Net___init__ : Stmt := inClass (topS 62) 0

theorem upd_but {H G : Hp} {p : Addr} {o : HO} (e : upd H p o = G) : SameBut p H G ∧ G p = some o := by
  subst e
  exact ⟨SameBut.upd, upd_same⟩
theorem FsAt.butI {C CN p dx : Addr} {H H' : Hp} {vs : List V} {fs : List FormP} (h : FsAt C H vs fs) (s : SameBut p H H') (hp : H p = some (.ins CN dx [])) : FsAt C H' vs fs := by
  induction h with
  | nil => exact .nil
  | cons e _ ih =>
    obtain ⟨d, ho⟩ := e.ob
    exact .cons ⟨⟨d, s _ _ (fun z => by rw [z, hp] at ho; cases ho) ho⟩, e.wo, e.p0, e.p1⟩ ih
structure NTxt (K : PySem.W.Frag) (mg : Str → Option Value) (CN : Addr) : Prop where
  cl : Cls K CN
  n_form_list : NoAttr K CN "form_list"
  n_enters_at : NoAttr K CN "enters_at"
  n_row_list : NoAttr K CN "row_list"
  n_hold_list : NoAttr K CN "hold_list"
  n_out_at : NoAttr K CN "out_at"
  n_point_list : NoAttr K CN "point_list"
section
variable {P : Program} {w : World} {K : PySem.W.Frag} {mg : Str → Option Value} {base : Heap}
theorem sc_Net___init__ : FnScope ["self", "forms", "enters", "rows", "holds", "out", "form_points", "hold_points", "points", "form", "hold"] ["self", "forms", "enters", "rows", "holds", "out"] (defScope s_Net___init__) := ⟨rfl, rfl, rfl, by decide +kernel, rfl, by decide +kernel, by decide +kernel⟩
theorem ok_Net___init__ {f : Addr} {fd : FuncData} {C CN : Addr} (T : FTxt K mg C) (TN : NTxt K mg CN) (F : Fun K "__init__" "Net.__init__" s_Net___init__ f fd) (z : Zs mg) (c_check_forms : Cal P w K mg base 2 "check_forms" ["forms"] (spCkForms C)) (c_is_place : Cal P w K mg base 2 "is_place" ["thing", "many"] spPlace) (c_check_holds : Cal P w K mg base 4 "check_holds" ["holds", "forms"] (spCkHolds C)) (c_checked_points : Cal P w K mg base 5 "checked_points" ["rows", "given"] spCkPts) (c_check_links : Cal P w K mg base 3 "check_links" ["holds", "rows"] spCkLinks) : FnOk P w K mg base CX0 6 f fd ["self", "forms", "enters", "rows", "holds", "out"] (spNetInit C CN) := by
  refine F.ok sc_Net___init__ (fun vs H Q E h => ?_) (fun cdv A outer s H vs Q E hr h => ?_)
  · obtain ⟨p, dx, fl, rl, hl, n, fv, rv, hv, rfl, _⟩ := h
    rfl
  · obtain ⟨p, dx, fl, rl, hl, n, fv, rv, hv, rfl, hp, hf, hfs, hra, hrs, hha, hhs, ok, q⟩ := h
    refine ⟨_, (pss_cons (ps_expr (pe_cal c_check_forms hr (pa_cons (pv 1) pa_nil)))
      (pss_cons (ps_if (pt_not (pt_val (pe_cal c_is_place hr (pa_cons (pv 2) (pa_cons (pe_callB call_len_seq (by rfl) z.len PySem.boot_len (pa_cons (pv 1) pa_nil)) pa_nil))))) (pss_one ps_never) pss_nil)
      (pss_cons (ps_expr (pe_cal c_check_holds hr (pa_cons (pv 4) (pa_cons (pv 1) pa_nil))))
      (pss_cons (ps_set (i := 6) sc_Net___init__.nd rfl (.inr rfl) (pe_lc (own := [("form", 9)]) (g := gName 9) (tt := tYes) (te := tFld K (tVar 9) "point") (by rfl) sc_Net___init__.nd (pi_list (pv 1)) (blkOk_by (own := [("form", 9)]) (N := ["self", "forms", "enters", "rows", "holds", "out", "form_points", "hold_points", "points", "form", "hold"]) (sc := defScope s_Net___init__) (by decide +kernel)) (fun _ _ _ _ _ => by exact (pg_name (i := 9) sc_Net___init__.nd rfl (.inl rfl))) (fun _ _ _ _ _ => by exact pts_nil) (fun _ _ _ _ _ => by exact (pe_fld (pv 9) rfl))))
      (pss_cons (ps_setLc (i := 7) (own := [("hold", 10)]) (g := gName 10) (tt := tYes) (te := (tOp (rIxL K) (tVar 6) (tOp (rIxT K) (tVar 10) (tC (.int 0))))) (by rfl) sc_Net___init__.nd rfl rfl (sw_true rfl rfl rfl (by decide +kernel)) (pi_list (pv 4)) (blkOk_by (own := [("hold", 10)]) (N := ["self", "forms", "enters", "rows", "holds", "out", "form_points", "hold_points", "points", "form", "hold"]) (sc := defScope s_Net___init__) (by decide +kernel)) (fun _ _ _ _ _ => by exact (pg_name (i := 10) sc_Net___init__.nd rfl (.inl rfl))) (fun _ _ _ _ _ => by exact pts_nil) (fun _ _ _ _ _ => by exact (pe_ix ix_list (pv 6) (pe_ix ix_tup (pv 10) pe_int (fun _ _ => rfl)) (fun _ _ => rfl))))
      (pss_cons (ps_set (i := 8) sc_Net___init__.nd rfl (.inl rfl) (pe_cal c_checked_points hr (pa_cons (pv 3) (pa_cons (pe_tup (pa_cons (pe_ix ix_list (pv 6) (pv 2) (fun _ _ => rfl)) (pa_cons (pv 7) (pa_cons (pv 6) pa_nil)))) pa_nil))))
      (pss_cons (ps_expr (pe_cal c_check_links hr (pa_cons (pv 4) (pa_cons (pv 3) pa_nil))))
      (pss_cons (ps_if (pt_not (pt_val (pe_cal c_is_place hr (pa_cons (pv 5) (pa_cons (pe_callB call_len_seq (by rfl) z.len PySem.boot_len (pa_cons (pv 3) pa_nil)) pa_nil))))) (pss_one ps_never) pss_nil)
      (pss_cons (ps_fld (pv 0) (pe_callTy call_list_of (by rfl) z.list (by decide +kernel) (pa_cons (pv 1) pa_nil)) rfl)
      (pss_cons (ps_fld (pv 0) (pv 2) rfl)
      (pss_cons (ps_fld (pv 0) (pe_callTy call_list_of (by rfl) z.list (by decide +kernel) (pa_cons (pv 3) pa_nil)) rfl)
      (pss_cons (ps_fld (pv 0) (pe_callTy call_list_of (by rfl) z.list (by decide +kernel) (pa_cons (pv 4) pa_nil)) rfl)
      (pss_cons (ps_fld (pv 0) (pv 5) rfl)
      (pss_one (ps_fld (pv 0) (pv 8) rfl))))))))))))))), ?_⟩
    have lf := hfs.len
    have lr := hrs.len
    have lh := hhs.len
    rw [List.length_map] at lr lh
    have en0 := ok.en
    have out0 := ok.out
    refine ⟨_, rfl, fl, fv, n.fs, rfl, hf, hfs, ok.f1, ok.f2, fun H1 s1 => ?_⟩
    refine ⟨_, rfl, _, rfl, fl, _, rfl, .inl (SqL.of (s1 _ _ hf)), _, _, rfl, by omega, by omega, _, rfl, iteF ?_⟩
    refine ⟨_, rfl, _, rfl, hl, fl, hv, fv, n.fs, n.holds, rfl, s1 _ _ hha, hhs.same s1, s1 _ _ hf, hfs.same s1, ok.h2, fun h hm => ⟨(ok.ho h hm).1, (ok.ho h hm).2.1⟩, fun H2 s2 => ?_⟩
    have S2 := s1.trans s2
    refine ⟨_, rfl, fl, rfl, ⟨_, SqL.of (S2 _ _ hf)⟩, fun Da hD => ?_⟩
    refine lc_it (walk_list (K := K) (a := fl) (xs := fv)) (fun i H4 => Same H2 H4 ∧ H4 Da = some (.lst (((n.fs.take i).map (·.pt)).map V.int))) ⟨same_new hD, upd_same⟩ (fun i H4 hi hP => SqL.of (hP.1 _ _ (S2 _ _ hf))) (fun i x' H4 H5 hi hP hy => ?_) (fun H3 hP => ?_)
    · obtain ⟨s4, hD4⟩ := hP
      obtain ⟨rfl, hx⟩ := hy
      obtain ⟨fa, fm, rfl, efm, hfa⟩ := hfs.get hx
      obtain ⟨dxf, hof⟩ := (FormAt.same hfa (S2.trans s4)).ob
      refine ⟨rfl, _, rfl, fa, C, dxf, _, _, rfl, hof, T.cl, T.nP, fl_p, _, hD4, ?_, fun b' o' e' => ?_, ?_⟩
      · rw [List.length_map, List.length_map, List.length_take]
        exact sl_lt (by have := ok.f2; omega)
      · rw [upd_ne (ne_of_none e' hD)]
        exact s4 _ _ e'
      · rw [upd_same, List.take_add_one, efm, List.map_append, List.map_append]
        rfl
    obtain ⟨s3, hDa⟩ := hP
    rw [lf, List.take_length] at hDa
    have S3 := S2.trans s3
    have lfp : (n.fs.map (·.pt)).length = n.fs.length := List.length_map ..
    refine ⟨_, rfl, hl, rfl, ⟨_, SqL.of (S3 _ _ hha)⟩, fun Db hDb => ?_⟩
    refine lc_it (walk_list (K := K) (a := hl) (xs := hv)) (fun i H4 => Same H3 H4 ∧ H4 Db = some (.lst (((n.holds.take i).map fun h => fpt n.fs h.k).map V.int))) ⟨same_new hDb, upd_same⟩ (fun i H4 hi hP => SqL.of (hP.1 _ _ (S3 _ _ hha))) (fun i x' H4 H5 hi hP hy => ?_) (fun H4 hP => ?_)
    · obtain ⟨s4, hD4⟩ := hP
      obtain ⟨rfl, hx⟩ := hy
      obtain ⟨ha, xs, rfl, exs, hha'⟩ := hhs.get hx
      rw [List.getElem?_map] at exs
      obtain ⟨hh, eh, rfl⟩ := Option.map_eq_some_iff.mp exs
      have kl := (ok.ho hh (List.mem_of_getElem? eh)).1
      refine ⟨rfl, _, rfl, _, rfl, ha, _, 0, .int hh.k, rfl, rfl, SqT.of ((S3.trans s4) _ _ hha'), a0, Da, _, _, _, rfl, rfl, SqL.of (s4 _ _ hDa), ints_at (by omega), _, hD4, ?_, fun b' o' e' => ?_, ?_⟩
      · rw [List.length_map, List.length_map, List.length_take]
        exact sl_lt (by have := ok.h2; omega)
      · rw [upd_ne (ne_of_none e' hDb)]
        exact s4 _ _ e'
      · rw [upd_same, List.take_add_one, eh, List.map_append, List.map_append]
        rfl
    obtain ⟨s4, hDb'⟩ := hP
    rw [lh, List.take_length] at hDb'
    have S4 := S3.trans s4
    refine ⟨_, rfl, _, rfl, _, rfl, Da, _, _, _, rfl, rfl, SqL.of (s4 _ _ hDa), ints_at (by omega), _, rfl, _, rfl, (by show 3 ≤ sizeLine; decide), fun gv hgv => ?_⟩
    generalize hG : upd _ gv _ = G5
    obtain ⟨s5, h_gv⟩ := upd_gen hG hgv
    have S5 := S4.trans s5
    have lhp : (hpts n).length = n.holds.length := List.length_map ..
    refine ⟨rl, gv, rv, n.rows, fpt n.fs n.en, hpts n, n.fs.map FormP.pt, rfl, S5 _ _ hra, hrs.same S5, ⟨Db, Da, h_gv, s5 _ _ hDb', s5 _ _ (s4 _ _ hDa)⟩, ok.r1, ok.r2, fun i r e => by rw [lhp, lfp]; exact ok.ro i r e, ok.po, fun pl H6 s6 hpl h_pl => ?_⟩
    have S6 := S5.trans s6
    refine ⟨_, rfl, _, rfl, hl, rl, hv, rv, n.holds, n.rows, rfl, S6 _ _ hha, hhs.same S6, S6 _ _ hra, hrs.same S6, fun h hm => (ok.ho h hm).2.2, fun H7 s7 => ?_⟩
    have S7 := S6.trans s7
    replace h_pl := s7 _ _ h_pl
    refine ⟨_, rfl, _, rfl, rl, _, rfl, .inl (SqL.of (S7 _ _ hra)), _, _, rfl, by omega, by omega, _, rfl, iteF ?_⟩
    have hp0 := hp
    have n_pl : pl ≠ p := (ne_of_none (S5 _ _ hp) hpl).symm
    have nfl : fl ≠ p := ne_of hf hp (fun z => nomatch z)
    have nrl : rl ≠ p := ne_of hra hp (fun z => nomatch z)
    have nhl : hl ≠ p := ne_of hha hp (fun z => nomatch z)
    have B : SameBut p H H7 := .of S7
    replace hp := S7 _ _ hp
    clear s1 s2 s3 s4 s5 s6 s7 S2 S3 S4 S5 S6 S7 hDa hDb' h_gv hG hpl hD hDb hgv
    refine ⟨_, rfl, fl, _, rfl, .inl (SqL.of (B _ _ nfl hf)), fun f2 hf2 => ?_⟩
    have n_f2 : f2 ≠ p := (ne_of_none hp hf2).symm
    generalize hG : upd _ f2 _ = K1
    obtain ⟨s, h_f2⟩ := upd_gen hG hf2
    replace B := B.trans (.of s)
    replace hp := s _ _ hp
    replace h_pl := s _ _ h_pl
    clear hG s
    refine ⟨_, rfl, p, CN, dx, _, rfl, hp, TN.cl, TN.n_form_list, (by show 0 < 1000; decide), ?_⟩
    generalize hG : upd _ p _ = K2
    obtain ⟨s, hp'⟩ := upd_but hG
    replace B := B.trans s
    clear hp
    have hp := hp'
    clear hp'
    rw [nf0] at hp
    replace h_pl := s _ _ n_pl h_pl
    replace h_f2 := s _ _ n_f2 h_f2
    clear hG s
    refine ⟨_, rfl, _, rfl, p, CN, dx, _, rfl, hp, TN.cl, TN.n_enters_at, (by show 1 < 1000; decide), ?_⟩
    generalize hG : upd _ p _ = K3
    obtain ⟨s, hp'⟩ := upd_but hG
    replace B := B.trans s
    clear hp
    have hp := hp'
    clear hp'
    rw [nf1] at hp
    replace h_pl := s _ _ n_pl h_pl
    replace h_f2 := s _ _ n_f2 h_f2
    clear hG s
    refine ⟨_, rfl, rl, _, rfl, .inl (SqL.of (B _ _ nrl hra)), fun r2 hr2 => ?_⟩
    have n_r2 : r2 ≠ p := (ne_of_none hp hr2).symm
    generalize hG : upd _ r2 _ = K4
    obtain ⟨s, h_r2⟩ := upd_gen hG hr2
    replace B := B.trans (.of s)
    replace hp := s _ _ hp
    replace h_pl := s _ _ h_pl
    replace h_f2 := s _ _ h_f2
    clear hG s
    refine ⟨_, rfl, p, CN, dx, _, rfl, hp, TN.cl, TN.n_row_list, (by show 2 < 1000; decide), ?_⟩
    generalize hG : upd _ p _ = K5
    obtain ⟨s, hp'⟩ := upd_but hG
    replace B := B.trans s
    clear hp
    have hp := hp'
    clear hp'
    rw [nf2] at hp
    replace h_pl := s _ _ n_pl h_pl
    replace h_f2 := s _ _ n_f2 h_f2
    replace h_r2 := s _ _ n_r2 h_r2
    clear hG s
    refine ⟨_, rfl, hl, _, rfl, .inl (SqL.of (B _ _ nhl hha)), fun h2 hh2 => ?_⟩
    have n_h2 : h2 ≠ p := (ne_of_none hp hh2).symm
    generalize hG : upd _ h2 _ = K6
    obtain ⟨s, h_h2⟩ := upd_gen hG hh2
    replace B := B.trans (.of s)
    replace hp := s _ _ hp
    replace h_pl := s _ _ h_pl
    replace h_f2 := s _ _ h_f2
    replace h_r2 := s _ _ h_r2
    clear hG s
    refine ⟨_, rfl, p, CN, dx, _, rfl, hp, TN.cl, TN.n_hold_list, (by show 3 < 1000; decide), ?_⟩
    generalize hG : upd _ p _ = K7
    obtain ⟨s, hp'⟩ := upd_but hG
    replace B := B.trans s
    clear hp
    have hp := hp'
    clear hp'
    rw [nf3] at hp
    replace h_pl := s _ _ n_pl h_pl
    replace h_f2 := s _ _ n_f2 h_f2
    replace h_r2 := s _ _ n_r2 h_r2
    replace h_h2 := s _ _ n_h2 h_h2
    clear hG s
    refine ⟨_, rfl, _, rfl, p, CN, dx, _, rfl, hp, TN.cl, TN.n_out_at, (by show 4 < 1000; decide), ?_⟩
    generalize hG : upd _ p _ = K8
    obtain ⟨s, hp'⟩ := upd_but hG
    replace B := B.trans s
    clear hp
    have hp := hp'
    clear hp'
    rw [nf4] at hp
    replace h_pl := s _ _ n_pl h_pl
    replace h_f2 := s _ _ n_f2 h_f2
    replace h_r2 := s _ _ n_r2 h_r2
    replace h_h2 := s _ _ n_h2 h_h2
    clear hG s
    refine ⟨_, rfl, _, rfl, p, CN, dx, _, rfl, hp, TN.cl, TN.n_point_list, (by show 5 < 1000; decide), ?_⟩
    generalize hG : upd _ p _ = K9
    obtain ⟨s, hp'⟩ := upd_but hG
    replace B := B.trans s
    clear hp
    have hp := hp'
    clear hp'
    rw [nf5] at hp
    replace h_pl := s _ _ n_pl h_pl
    replace h_f2 := s _ _ n_f2 h_f2
    replace h_r2 := s _ _ n_r2 h_r2
    replace h_h2 := s _ _ n_h2 h_h2
    clear hG s
    exact q _ ⟨ok, dx, f2, r2, h2, pl, fv, rv, hv, hp, h_f2, FsAt.butI hfs B hp0, h_r2, hrs.mono (fun a xs e => B _ _ (ne_of e hp0 (fun z => nomatch z)) e), h_h2, hhs.mono (fun a xs e => B _ _ (ne_of e hp0 (fun z => nomatch z)) e), h_pl⟩ (fun b o nb e => B b o nb e)
end
end E1

namespace E1
open PySem PySem.Spec PyProof.Rows L2
/-! ### zip of a list and a tuple -/
def ItzM (K : PySem.W.Frag) (a b : Addr) : It where
  go i H := ∃ (xs ys : List V) (x y : V), (SqL K H a xs ∧ xs[i]? = some x) ∧ SqT K H b ys ∧ ys[i]? = some y
  yld i H v H' := ∃ T x y, (v = .ref T ∧ H T = none ∧ H' = upd H T (.tup [x, y])) ∧ (∀ xs, SqL K H a xs → xs[i]? = some x) ∧ ∀ ys, SqT K H b ys → ys[i]? = some y
  stop i H := ∃ xs ys : List V, (SqL K H a xs ∧ SqT K H b ys) ∧ (i = xs.length ∨ i = ys.length) ∧ i ≤ xs.length ∧ i ≤ ys.length
/-- the five cells of such a zip -/
structure ZpM (h : Heap) (z TI TO i1 i2 a b : Addr) (i : Nat) : Prop where
  zip : IsZip h z TI TO .none
  ti : IsPair h TI (.ref i1) (.ref i2)
  to : ∃ x y, IsPair h TO x y
  one : h.IsListIter i1 a i
  two : h.IsTupleIter i2 b i
theorem ZpM.cells {h : Heap} {z TI TO i1 i2 a b : Addr} {i : Nat} (s : ZpM h z TI TO i1 i2 a b i) : ∀ c ∈ [z, TI, TO, i1, i2], ∃ o, h.get? c = some o ∧ ∀ v, o.data ≠ .cell v := fun c hc => by
  obtain ⟨o1, e1, _, d1⟩ := s.one
  obtain ⟨o2, e2, _, d2⟩ := s.two
  obtain ⟨x, y, e3⟩ := s.to
  simp only [List.mem_cons, List.not_mem_nil, or_false] at hc
  rcases hc with rfl | rfl | rfl | rfl | rfl
  · exact ⟨_, s.zip, fun _ n => nomatch n⟩
  · exact ⟨_, s.ti, fun _ n => nomatch n⟩
  · exact ⟨_, e3, fun _ n => nomatch n⟩
  · exact ⟨o1, e1, fun _ n => nomatch d1.symm.trans n⟩
  · exact ⟨o2, e2, fun _ n => nomatch d2.symm.trans n⟩
theorem ZpM.sep {z TI TO i1 i2 a b : Addr} (D : ZipApart z TI TO i1 i2 a b) : ZipSep2 z TI TO i1 i2 [i1, a] [i2, b] := by
  constructor <;> first | exact D.TIz | exact D.TOz | exact D.TITO | exact D.TIi1 | exact D.TIi2 | skip
  all_goals simp only [List.mem_cons, List.not_mem_nil, or_false, true_or, not_or]
  · exact ⟨D.i1z.symm, D.l1z.symm⟩
  · exact ⟨D.TOi1, D.l1TO.symm⟩
  · exact ⟨D.i2z.symm, D.l2z.symm⟩
  · exact ⟨D.TOi2, D.l2TO.symm⟩
  · exact ⟨D.i12, D.l2i1.symm⟩
  · exact ⟨D.i12.symm, D.l1i2.symm⟩
theorem turn_zipM {P : Program} {w : World} {K : PySem.W.Frag} {elts : List Expr} {kk : Nat} {tpos : Pos} {a b z TI TO i1 i2 : Addr} (D : ZipApart z TI TO i1 i2 a b) : Turn P w K (.Tuple elts kk tpos) (ItzM K a b) [z, TI, TO, i1, i2] z (fun i h => ZpM h z TI TO i1 i2 a b i) := by
  have sp := ZpM.sep D
  refine ⟨List.mem_cons_self .., fun i h st => st.cells, fun i h h' st k => ?_, fun X hP hw hK hc i pins s σ H E I hf st hg => ?_, fun X hP hw hK hc i pins s σ H E I hf st hg => ?_, fun A i s Q E st h => wpAny_pyIter_zip st.zip h⟩
  · obtain ⟨x, y, e⟩ := st.to
    exact ⟨k z (by simp) _ st.zip, k TI (by simp) _ st.ti, ⟨x, y, k TO (by simp) _ e⟩, st.one.at fun o => k i1 (by simp) o, st.two.at fun o => k i2 (by simp) o⟩
  · subst hP hw hK
    obtain ⟨xs, ys, x, y, ⟨qx, ex⟩, qy, ey⟩ := hg
    obtain ⟨l1, rv1, p1, _⟩ := I.list qx
    obtain ⟨l2, rv2, p2, _⟩ := I.tuple qy
    obtain ⟨u1, eu1, ru1⟩ := rv1.get ex
    obtain ⟨u2, eu2, ru2⟩ := rv2.get ey
    obtain ⟨t1, t2, e3⟩ := st.to
    have hd : X.A.in1.handled = none := I.ok.hd hc
    have zl : z < s.heap.objs.size := Heap.lt_size st.zip
    have b1 : i < l1.toArray.size := by simpa using (List.getElem?_eq_some_iff.mp eu1).1
    have b2 : i < l2.toArray.size := by simpa using (List.getElem?_eq_some_iff.mp eu2).1
    refine wpAny_pyNext_zipD2_item sp (Draws.list hd i1 a D.l1i1 l1.toArray) (Draws.tuple hd i2 b D.l2i2 l2.toArray) st.zip st.ti e3 ⟨st.one, p1.isList⟩ ⟨st.two, p2⟩ b1 b2 fun v1 v2 h' tk y1 y2 z' to' s1 s2 hT hsz hk => ?_
    have ev1 : v1 = u1 := by
      have q : l1.toArray[i]? = some v1 := y1
      rw [List.getElem?_toArray, eu1] at q
      exact (Option.some.inj q).symm
    have ev2 : v2 = u2 := by
      have q : l2.toArray[i]? = some v2 := y2
      rw [List.getElem?_toArray, eu2] at q
      exact (Option.some.inj q).symm
    subst ev1 ev2
    refine ⟨_, rfl, wpAny_letOwnedTupleGo_zip (s := { s with heap := h', toks := tk }) z' fun g z'' sb => ?_⟩
    have nz : s.heap.objs.size ≠ z := Nat.ne_of_gt zl
    have lay : ObjOk X.prog X.w (upd H s.heap.objs.size (.tup [x, y])) g s.heap.objs.size (.tup [x, y]) := ⟨by show 2 ≤ sizeLine; decide, _, .cons ru1 (.cons ru2 .nil), ⟨_, (sb.2 _ nz).trans hT, rfl, _, rfl⟩⟩
    have far : ∀ c o, c ∉ [z, TI, TO, i1, i2] → s.heap.get? c = some o → g.get? c = some o := fun c o n e => by
      simp only [List.mem_cons, List.not_mem_nil, or_false, not_or] at n
      exact (sb.2 _ n.1).trans (hk c o n.1 n.2.2.1 n.2.2.2.1 n.2.2.2.2 e)
    have J : Inv X pins σ (upd H s.heap.objs.size (.tup [x, y])) { s with heap := g, toks := tk } := I.turnedNew (t' := tk) (ch := [z, TI, TO, i1, i2]) far hf (Nat.le_refl _) lay
    refine ⟨.ref s.heap.objs.size, _, J, rfl, ⟨_, x, y, ⟨rfl, I.hok.fresh (Nat.le_refl _), rfl⟩, fun l hl => (I.list_inj hl qx).symm ▸ ex, fun l hl => (I.tuple_inj hl qy).symm ▸ ey⟩, ⟨z'', ?_, ⟨_, _, (sb.2 _ D.TOz).trans to'⟩, s1.1.at fun o q => (sb.2 _ D.i1z).trans q, s2.1.at fun o q => (sb.2 _ D.i2z).trans q⟩, fun c hcm => ?_⟩
    · exact (sb.2 _ D.TIz).trans (hk _ _ D.TIz D.TITO D.TIi1 D.TIi2 st.ti)
    · obtain ⟨o, eo, _⟩ := st.cells c hcm
      rw [upd_ne (Nat.ne_of_lt (Heap.lt_size eo))]
      exact (hf c hcm).1
  · subst hP hw hK
    obtain ⟨xs, ys, ⟨qx, qy⟩, en, n1, n2⟩ := hg
    obtain ⟨l1, rv1, p1, _⟩ := I.list qx
    obtain ⟨l2, rv2, p2, _⟩ := I.tuple qy
    have e1 := rv1.length
    have e2 := rv2.length
    obtain ⟨t1, t2, e3⟩ := st.to
    have hd : X.A.in1.handled = none := I.ok.hd hc
    refine wpAny_pyNext_zipD2_end sp (Draws.list hd i1 a D.l1i1 l1.toArray) (Draws.tuple hd i2 b D.l2i2 l2.toArray) st.zip st.ti e3 ⟨st.one, p1.isList⟩ ⟨st.two, p2⟩ (by simp; omega) (by simp; omega) (by simp; omega) fun h' tk hk => ⟨rfl, I.turnedL (t' := tk) (ch := [z, TI, TO, i1, i2]) (fun c o n e => ?_) hf⟩
    simp only [List.mem_cons, List.not_mem_nil, or_false, not_or] at n
    exact hk c o n.1 n.2.2.1 n.2.2.2.1 n.2.2.2.2 e
def iZipM (K : PySem.W.Frag) (ta : TA) : TI := fun σ H R => ta σ H fun vs H1 => ∃ a b xs ys, vs = [.ref a, .ref b] ∧ SqL K H1 a xs ∧ SqT K H1 b ys ∧ R (ItzM K a b) H1
theorem pi_zipM {X : Cx} {e e2 : Expr} {ta : TA} {p pos tpos : Pos} {elts : List Expr} {kk : Nat} (hg : Gl X "zip") (hm : X.mg "zip" = none) (ha : PA X [e, e2] ta)
    (hs : starEach [e, e2] X.env = (false, eval e X.env) :: starEach [e2] X.env := by rfl) (hpl : (backTo pos (starEach [e2] X.env)).any (·.1) = false := by rfl) :
    PI X (.Tuple elts kk tpos) (.Call (.Name "zip" p) [e, e2] [] pos) (iZipM X.K ta) := by
  refine ⟨fun pins s σ H R I h => Call_ (ld_blt I hg hm PyProof.Rows.boot_zip (PyProof.Rows.callWith_type1 (thn (ha.run pos pins s σ H _ I h) fun us t ⟨vs, G, J, rv, q⟩ => ?_) hs hpl))⟩
  obtain ⟨a, b, xs, ys, rfl, qx, qy, q⟩ := q
  obtain ⟨u1, u2, rfl, r1, r2⟩ := vals2 rv
  cases r1
  cases r2
  obtain ⟨l1, _, p1, _⟩ := J.list qx
  obtain ⟨l2, _, p2, _⟩ := J.tuple qy
  obtain ⟨o2, e2', _⟩ := id p2
  refine zip_begins2 (begins_list a l1.toArray) (begins_tuple b l2.toArray) p1.isList p2 fun h' hz hTI hTO h1 h2 hsz hk => wpAny_pyIter_zip hz ?_
  refine ⟨_, [t.heap.objs.size + 4, t.heap.objs.size + 2, t.heap.objs.size + 3, t.heap.objs.size, t.heap.objs.size + 1], _, _, G, rfl, J.kept (t' := t.toks) hk, turn_zipM (PySem.W.ktu_apart t.heap.objs.size a b p1.lt (Heap.lt_size e2')), ⟨hz, hTI, ⟨_, _, hTO⟩, ⟨_, h1, rfl, rfl⟩, ⟨_, h2, rfl, rfl⟩⟩, fun c hc => ?_, q⟩
  have le : t.heap.objs.size ≤ c := by
    simp only [List.mem_cons, List.not_mem_nil, or_false] at hc
    rcases hc with rfl | rfl | rfl | rfl | rfl
    all_goals first | exact Nat.le_refl _ | exact Nat.le_add_right _ _
  exact J.fpOk le (J.hok.fresh le)
theorem walk_zipM {K : PySem.W.Frag} {a b : Addr} {xs ys : List V} (hl : xs.length = ys.length) : Walk (ItzM K a b) xs.length (fun H => SqL K H a xs ∧ SqT K H b ys) (YPair (fun i => xs[i]?) (fun i => ys[i]?)) := by
  refine ⟨fun i H hi q => ⟨xs, ys, xs[i], ys[i]'(by omega), ⟨q.1, by simp [hi]⟩, q.2, by simp [show i < ys.length by omega]⟩, fun H q => ⟨xs, ys, q, .inl rfl, Nat.le_refl _, Nat.le_of_eq hl⟩, fun i H v H' _ q y => ?_⟩
  obtain ⟨T, l, r, ⟨e1, e2, e3⟩, gl, gr⟩ := y
  exact ⟨T, l, r, e1, e2, e3, gl _ q.1, gr _ q.2⟩
end E1

namespace E1
open PySem PySem.Spec PyProof.Rows L2
/-! ### the numbers of a turn -/
instance : Inhabited FormP := ⟨⟨none, 0, .down, false⟩⟩
def frm (fs : List FormP) (k : Nat) : FormP := fs.getD k default
/-- lists grown one by one -/
def accL (g : List Int → Row → Int) (rows : List Row) : List Int := rows.foldl (fun a r => a ++ [g a r]) []
theorem accL_snoc (g : List Int → Row → Int) (rows : List Row) (r : Row) : accL g (rows ++ [r]) = accL g rows ++ [g (accL g rows) r] := by
  unfold accL
  rw [List.foldl_append]
  rfl
theorem accL_len (g : List Int → Row → Int) (rows : List Row) : (accL g rows).length = rows.length := by
  have key : ∀ (rows : List Row) (acc : List Int), (rows.foldl (fun a r => a ++ [g a r]) acc).length = acc.length + rows.length := by
    intro rows
    induction rows with
    | nil => exact fun acc => rfl
    | cons r rs ih =>
      intro acc
      rw [List.foldl_cons, ih]
      simp only [List.length_append, List.length_cons, List.length_nil]
      omega
  have := key rows []
  rw [List.length_nil, Nat.zero_add] at this
  exact this
theorem accL_pre (g : List Int → Row → Int) (a b : List Row) : ∃ t, accL g (a ++ b) = accL g a ++ t := by
  have key : ∀ (b : List Row) (acc : List Int), ∃ t, b.foldl (fun a r => a ++ [g a r]) acc = acc ++ t := by
    intro b
    induction b with
    | nil => exact fun acc => ⟨[], (List.append_nil _).symm⟩
    | cons r rs ih =>
      intro acc
      obtain ⟨t, e⟩ := ih (acc ++ [g acc r])
      exact ⟨[g acc r] ++ t, by rw [List.foldl_cons, e, List.append_assoc]⟩
  obtain ⟨t, e⟩ := key b (accL g a)
  refine ⟨t, ?_⟩
  rw [← e]
  unfold accL
  rw [List.foldl_append]
theorem accL_take (g : List Int → Row → Int) (rows : List Row) (i : Nat) : (accL g rows).take i = accL g (rows.take i) := by
  by_cases h : i ≤ rows.length
  · obtain ⟨t, e⟩ := accL_pre g (rows.take i) (rows.drop i)
    rw [List.take_append_drop] at e
    rw [e, List.take_append_of_le_length (by rw [accL_len, List.length_take]; omega), List.take_of_length_le (by rw [accL_len, List.length_take]; omega)]
  · rw [List.take_of_length_le (by rw [accL_len]; omega), List.take_of_length_le (by omega)]
theorem accL_next {g : List Int → Row → Int} {rows : List Row} {i : Nat} {r : Row} (h : rows[i]? = some r) : accL g (rows.take (i + 1)) = accL g (rows.take i) ++ [g (accL g (rows.take i)) r] := by
  rw [List.take_add_one, h, Option.toList_some, accL_snoc]
theorem accL_at {g : List Int → Row → Int} {rows : List Row} {i : Nat} {r : Row} (h : rows[i]? = some r) : (accL g rows)[i]? = some (g (accL g (rows.take i)) r) := by
  have hl := (List.getElem?_eq_some_iff.mp h).1
  have e := accL_take g rows (i + 1)
  rw [accL_next h] at e
  have e2 := congrArg (fun l => l[i]?) e
  simp only [List.getElem?_take] at e2
  rw [if_pos (Nat.lt_succ_self i)] at e2
  rw [e2, List.getElem?_append_right (by rw [accL_len, List.length_take]; omega), accL_len, List.length_take, Nat.min_eq_left (Nat.le_of_lt hl), Nat.sub_self]
  rfl
theorem ptsOf_acc (en : Int) (hp fp : List Int) (rows : List Row) : ptsOf en hp fp rows = accL (rowPt en hp fp) rows := rfl
/-- a row's number, from the numbers ahead and the points -/
def sumN (pts nums : List Int) (a b : Nat) (sg : Int) : Int :=
  let x := pts.getD a 0; let y := pts.getD b 0; let p := if y > x then y else x
  nums.getD a 0 * 2 ^ (p - x).toNat + sg * (nums.getD b 0 * 2 ^ (p - y).toNat)
def numRow (fs : List FormP) (pts : List Int) (x : Int) (st nums : List Int) : Row → Int
  | .inn => x
  | .old k => st.getD k 0
  | .times f _ a => f * nums.getD a 0
  | .plus a b => sumN pts nums a b 1
  | .less a b => sumN pts nums a b (-1)
  | .move _ a => nums.getD a 0
  | .keep f a => let F := frm fs f; wordF F.w F.st (stepsAt F.pt F.m (nums.getD a 0) (pts.getD a 0))
def NetP.nums (n : NetP) (x : Int) (st : List Int) : List Int := accL (numRow n.fs n.pts x st) n.rows
/-! ### sizes -/
def SzN (i : Nat) : Nat := 70 + 600 * i
theorem abs_mul_lt {x y : Int} {a b : Nat} (hx : x.natAbs < 2 ^ a) (hy : y.natAbs < 2 ^ b) : (x * y).natAbs < 2 ^ (a + b) := by
  rw [Int.natAbs_mul, Nat.pow_add]
  exact Nat.mul_lt_mul'' hx hy
theorem abs_add_lt {x y : Int} {a : Nat} (hx : x.natAbs < 2 ^ a) (hy : y.natAbs < 2 ^ a) : (x + y).natAbs < 2 ^ (a + 1) := by
  rw [Nat.pow_succ]
  generalize 2 ^ a = N at *
  omega
theorem div_abs (t b : Int) : (t / b).natAbs ≤ t.natAbs := Int.natAbs_ediv_le_natAbs _ _
theorem half_abs {t b : Int} (hb : 0 < b) : (fHalf t b).natAbs ≤ t.natAbs + 1 := by
  rw [fHalf_is hb]
  have := div_abs t b
  split <;> omega
theorem rnd_abs (m : Mn) {t b : Int} (hb : 0 < b) : (m.f t b).natAbs ≤ t.natAbs + 2 := by
  have h1 := div_abs t b
  have h2 := div_abs (-t) b
  have h3 := half_abs (t := t) hb
  have h4 := half_abs (t := -t) hb
  cases m with
  | down => show (fDown t b).natAbs ≤ _; unfold fDown; omega
  | up => show (fUp t b).natAbs ≤ _; unfold fUp; omega
  | inn => show (fIn t b).natAbs ≤ _; unfold fIn fDown fUp; split <;> omega
  | out => show (fOut t b).natAbs ≤ _; unfold fOut fDown fUp; split <;> omega
  | half => show (fHalf t b).natAbs ≤ _; omega
  | even => show (fEven t b).natAbs ≤ _; unfold fEven; split <;> omega
  | far => show (fFar t b).natAbs ≤ _; unfold fFar; split <;> omega
theorem steps_lt {pt p n : Int} {m : Mn} {a : Nat} (hn : n.natAbs < 2 ^ a) (h0 : -64 ≤ pt) (h1 : pt ≤ 64) (p0 : -200 ≤ p) (p1 : p ≤ 200) : (stepsAt pt m n p).natAbs < 2 ^ (a + 300) := by
  unfold stepsAt
  split
  · refine Nat.lt_of_lt_of_le (abs_mul_lt hn (two_pow_lt (k := (pt - p).toNat) (n := 299) (by omega))) (Nat.pow_le_pow_right (by decide) (by omega))
  · have := rnd_abs m (t := n) (two_pow_pos (p - pt).toNat)
    have e : 2 ^ (a + 300) = 2 ^ a * 2 ^ 300 := Nat.pow_add ..
    have one : 0 < 2 ^ a := Nat.pow_pos (by decide)
    have big : 4 ≤ 2 ^ 300 := by decide
    have : 2 ^ a * 4 ≤ 2 ^ a * 2 ^ 300 := Nat.mul_le_mul_left _ big
    omega
theorem two_lt64 {y : Int} (h0 : 2 ≤ y) (h1 : y ≤ 64) : (two y).natAbs ≤ 2 ^ 64 := by
  unfold two
  rw [Int.natAbs_pow]
  exact Nat.pow_le_pow_right (by decide) (by omega)
theorem word_abs (w : Option Int) (st : Bool) (n : Int) (hw : WOk w) : (wordF w st n).natAbs ≤ n.natAbs ∨ (wordF w st n).natAbs < 2 ^ 70 := by
  unfold wordF
  cases w with
  | none => exact .inl (Nat.le_refl _)
  | some y =>
    obtain ⟨y0, y1⟩ := hw y rfl
    have t1 : (two (y - 1)).natAbs ≤ 2 ^ 64 := by
      unfold two
      rw [Int.natAbs_pow]
      exact Nat.pow_le_pow_right (by decide) (by omega)
    have t2 := two_lt64 y0 y1
    have p1 := two_pos (y - 1)
    have p2 := two_pos y
    have b1 : (2 : Nat) ^ 70 = 2 ^ 64 * 64 := by decide
    have m0 := Int.emod_nonneg (n - lst y) (show two y ≠ 0 by omega)
    have m1 := Int.emod_lt_of_pos (n - lst y) p2
    by_cases h : inR (some y) n = true
    · left
      show (if inR (some y) n = true then n else if st = true then (if n < 0 then lst y else grt y) else (n - lst y) % two y + lst y).natAbs ≤ n.natAbs
      rw [if_pos h]
      exact Nat.le_refl _
    · right
      rw [b1]
      show (if inR (some y) n = true then n else if st = true then (if n < 0 then lst y else grt y) else (n - lst y) % two y + lst y).natAbs < _
      rw [if_neg h]
      unfold lst grt at *
      generalize (2 : Nat) ^ 64 = N at *
      generalize two (y - 1) = u at *
      generalize two y = v at *
      generalize (n - -u) % v = r at *
      split
      · split <;> omega
      · omega
structure NumSm (n : NetP) (x : Int) (st : List Int) : Prop where
  x : x.natAbs < 2 ^ 70
  st : ∀ k ∈ st, k.natAbs < 2 ^ 70
theorem getD_lt {l : List Int} {N i : Nat} (h : ∀ k ∈ l, k.natAbs < N) (hN : 0 < N) : (l.getD i 0).natAbs < N := by
  rw [List.getD_eq_getElem?_getD]
  cases e : l[i]? with
  | none => exact hN
  | some k => exact h k (List.mem_of_getElem? e)
theorem num_lt {n : NetP} (ok : NetOk n) {x : Int} {st : List Int} (ko : NumSm n x st) : ∀ i, i ≤ n.rows.length → ∀ k ∈ accL (numRow n.fs n.pts x st) (n.rows.take i), k.natAbs < 2 ^ SzN i := by
  intro i
  induction i with
  | zero => intro _ k hk; cases hk
  | succ i ih =>
    intro hi k hk
    obtain ⟨r, er⟩ : ∃ r, n.rows[i]? = some r := ⟨_, List.getElem?_eq_getElem (by omega)⟩
    rw [accL_next er] at hk
    have ih' := ih (by omega)
    have lp : 0 < 2 ^ SzN i := Nat.pow_pos (by decide)
    have wide : ∀ {y a : Nat}, y < 2 ^ a → a ≤ SzN (i + 1) → y < 2 ^ SzN (i + 1) := fun h l => up h l
    have sz : SzN (i + 1) = SzN i + 600 := rfl
    have s70 : 70 ≤ SzN i := Nat.le_add_right _ _
    rcases List.mem_append.mp hk with hk | hk
    · exact wide (ih' k hk) (by omega)
    rw [List.mem_singleton.mp hk]
    have at' : ∀ a, ((accL (numRow n.fs n.pts x st) (n.rows.take i)).getD a 0).natAbs < 2 ^ SzN i := fun a => getD_lt ih' lp
    have pp : ∀ a, -200 ≤ n.pts.getD a 0 ∧ n.pts.getD a 0 ≤ 200 := fun a => by
      rw [List.getD_eq_getElem?_getD]
      cases e : n.pts[a]? with
      | none => exact ⟨by decide, by decide⟩
      | some k => exact ok.po k (List.mem_of_getElem? e)
    have sums : ∀ a b sg, (sg = 1 ∨ sg = -1) → (sumN n.pts (accL (numRow n.fs n.pts x st) (n.rows.take i)) a b sg).natAbs < 2 ^ SzN (i + 1) := fun a b sg hs => by
      obtain ⟨a0, a1⟩ := pp a
      obtain ⟨b0, b1⟩ := pp b
      unfold sumN
      have k1 : ∀ c, ((if n.pts.getD b 0 > n.pts.getD a 0 then n.pts.getD b 0 else n.pts.getD a 0) - n.pts.getD c 0).toNat < 401 := fun c => by
        obtain ⟨c0, c1⟩ := pp c
        split <;> omega
      have x1 := abs_mul_lt (at' a) (two_pow_lt (k1 a))
      have x2 := abs_mul_lt (at' b) (two_pow_lt (k1 b))
      refine wide (abs_add_lt x1 ?_) (by omega)
      rcases hs with rfl | rfl
      · rw [Int.one_mul]
        exact x2
      · rw [Int.neg_mul, Int.one_mul, Int.natAbs_neg]
        exact x2
    have ro := ok.ro i r er
    match r, ro with
    | .inn, _ => exact wide ko.x (by omega)
    | .old k, _ => exact wide (getD_lt ko.st (by decide)) (by omega)
    | .times f m a, h => exact wide (abs_mul_lt (show f.natAbs < 2 ^ 63 from h.1) (at' a)) (by omega)
    | .plus a b, _ => exact sums a b 1 (.inl rfl)
    | .less a b, _ => exact sums a b (-1) (.inr rfl)
    | .move m a, _ => exact wide (at' a) (by omega)
    | .keep f a, h =>
      obtain ⟨p0, p1⟩ := pp a
      have fo : (frm n.fs f).Ok := by
        have e : frm n.fs f = n.fs[f]'h.1 := by
          unfold frm
          rw [List.getD_eq_getElem?_getD, List.getElem?_eq_getElem h.1]
          rfl
        rw [e]
        exact ok.fo _ (List.getElem_mem _)
      have s1 := steps_lt (m := (frm n.fs f).m) (at' a) fo.p0 fo.p1 p0 p1
      rcases word_abs (frm n.fs f).w (frm n.fs f).st (stepsAt (frm n.fs f).pt (frm n.fs f).m ((accL (numRow n.fs n.pts x st) (n.rows.take i)).getD a 0) (n.pts.getD a 0)) fo.wo with h | h
      · exact wide (Nat.lt_of_le_of_lt h s1) (by omega)
      · exact wide h (by omega)

/-- all numbers of a turn are of a size that can be reckoned with -/
def NumOk (n : NetP) (x : Int) (st : List Int) : Prop := ∀ k ∈ n.nums x st, k.natAbs < 2 ^ 900000
theorem NumOk.pre {n : NetP} {x : Int} {st : List Int} (h : NumOk n x st) {i : Nat} {k : Int} (hk : k ∈ accL (numRow n.fs n.pts x st) (n.rows.take i)) : k.natAbs < 2 ^ 900000 := by
  rw [← accL_take] at hk
  exact h k (List.mem_of_mem_take hk)
def Row.small : Row → Prop
  | .times f _ _ => f.natAbs ≤ 9
  | _ => True
/-- a net whose numbers grow slowly -/
structure Calm (n : NetP) : Prop where
  rs : ∀ r ∈ n.rows, r.small
  ps : ∀ p ∈ n.pts, -48 ≤ p ∧ p ≤ 48
  fs : ∀ f ∈ n.fs, -7 ≤ f.pt ∧ f.pt ≤ 7
  ln : n.rows.length ≤ 27
def Mild (n : NetP) : Prop := (∀ f ∈ n.fs, f.w ≠ none) ∨ Calm n
theorem steps_lt2 {pt p n : Int} {m : Mn} {a : Nat} (hn : n.natAbs < 2 ^ a) (h0 : -7 ≤ pt) (h1 : pt ≤ 7) (p0 : -48 ≤ p) (p1 : p ≤ 48) : (stepsAt pt m n p).natAbs < 2 ^ (a + 60) := by
  unfold stepsAt
  split
  · refine Nat.lt_of_lt_of_le (abs_mul_lt hn (two_pow_lt (k := (pt - p).toNat) (n := 59) (by omega))) (Nat.pow_le_pow_right (by decide) (by omega))
  · have := rnd_abs m (t := n) (two_pow_pos (p - pt).toNat)
    have e : 2 ^ (a + 60) = 2 ^ a * 2 ^ 60 := Nat.pow_add ..
    have one : 0 < 2 ^ a := Nat.pow_pos (by decide)
    have big : 4 ≤ 2 ^ 60 := by decide
    have : 2 ^ a * 4 ≤ 2 ^ a * 2 ^ 60 := Nat.mul_le_mul_left _ big
    omega
theorem num_calm {n : NetP} (ok : NetOk n) (cm : Calm n) {x : Int} {st : List Int} {s : Nat} (s70 : 70 ≤ s) (hx : x.natAbs < 2 ^ 70) (hst : ∀ k ∈ st, k.natAbs < 2 ^ s) : ∀ i, i ≤ n.rows.length → ∀ k ∈ accL (numRow n.fs n.pts x st) (n.rows.take i), k.natAbs < 2 ^ (s + 100 * i) := by
  intro i
  induction i with
  | zero => intro _ k hk; cases hk
  | succ i ih =>
    intro hi k hk
    obtain ⟨r, er⟩ : ∃ r, n.rows[i]? = some r := ⟨_, List.getElem?_eq_getElem (by omega)⟩
    rw [accL_next er] at hk
    have ih' := ih (by omega)
    have lp : 0 < 2 ^ (s + 100 * i) := Nat.pow_pos (by decide)
    have wide : ∀ {y a : Nat}, y < 2 ^ a → a ≤ s + 100 * (i + 1) → y < 2 ^ (s + 100 * (i + 1)) := fun h l => up h l
    rcases List.mem_append.mp hk with hk | hk
    · exact wide (ih' k hk) (by omega)
    rw [List.mem_singleton.mp hk]
    have at' : ∀ a, ((accL (numRow n.fs n.pts x st) (n.rows.take i)).getD a 0).natAbs < 2 ^ (s + 100 * i) := fun a => getD_lt ih' lp
    have pp : ∀ a, -48 ≤ n.pts.getD a 0 ∧ n.pts.getD a 0 ≤ 48 := fun a => by
      rw [List.getD_eq_getElem?_getD]
      cases e : n.pts[a]? with
      | none => exact ⟨by decide, by decide⟩
      | some k => exact cm.ps k (List.mem_of_getElem? e)
    have sums : ∀ a b sg, (sg = 1 ∨ sg = -1) → (sumN n.pts (accL (numRow n.fs n.pts x st) (n.rows.take i)) a b sg).natAbs < 2 ^ (s + 100 * (i + 1)) := fun a b sg hs => by
      obtain ⟨a0, a1⟩ := pp a
      obtain ⟨b0, b1⟩ := pp b
      unfold sumN
      have k1 : ∀ c, ((if n.pts.getD b 0 > n.pts.getD a 0 then n.pts.getD b 0 else n.pts.getD a 0) - n.pts.getD c 0).toNat < 97 := fun c => by
        obtain ⟨c0, c1⟩ := pp c
        split <;> omega
      have x1 := abs_mul_lt (at' a) (two_pow_lt (k1 a))
      have x2 := abs_mul_lt (at' b) (two_pow_lt (k1 b))
      refine wide (abs_add_lt x1 ?_) (by omega)
      rcases hs with rfl | rfl
      · rw [Int.one_mul]
        exact x2
      · rw [Int.neg_mul, Int.one_mul, Int.natAbs_neg]
        exact x2
    have ro := ok.ro i r er
    have rs := cm.rs r (List.mem_of_getElem? er)
    match r, ro, rs with
    | .inn, _, _ => exact wide hx (by omega)
    | .old k, _, _ => exact wide (getD_lt hst (Nat.pow_pos (by decide))) (by omega)
    | .times f m a, h, rs => exact wide (abs_mul_lt (show f.natAbs < 2 ^ 4 from Nat.lt_of_le_of_lt rs (by decide)) (at' a)) (by omega)
    | .plus a b, _, _ => exact sums a b 1 (.inl rfl)
    | .less a b, _, _ => exact sums a b (-1) (.inr rfl)
    | .move m a, _, _ => exact wide (at' a) (by omega)
    | .keep f a, h, _ =>
      obtain ⟨p0, p1⟩ := pp a
      have e : frm n.fs f = n.fs[f]'h.1 := by
        unfold frm
        rw [List.getD_eq_getElem?_getD, List.getElem?_eq_getElem h.1]
        rfl
      have fo : (frm n.fs f).Ok := by
        rw [e]
        exact ok.fo _ (List.getElem_mem _)
      have ff : -7 ≤ (frm n.fs f).pt ∧ (frm n.fs f).pt ≤ 7 := by
        rw [e]
        exact cm.fs _ (List.getElem_mem _)
      have s1 := steps_lt2 (m := (frm n.fs f).m) (at' a) ff.1 ff.2 p0 p1
      rcases word_abs (frm n.fs f).w (frm n.fs f).st (stepsAt (frm n.fs f).pt (frm n.fs f).m ((accL (numRow n.fs n.pts x st) (n.rows.take i)).getD a 0) (n.pts.getD a 0)) fo.wo with h | h
      · exact wide (Nat.lt_of_le_of_lt h s1) (by omega)
      · exact wide h (by omega)
theorem all_take {n : NetP} {x : Int} {st : List Int} {N : Nat} (h : ∀ k ∈ accL (numRow n.fs n.pts x st) (n.rows.take n.rows.length), k.natAbs < N) : ∀ k ∈ n.nums x st, k.natAbs < N := fun k hk => h k (by
  rw [List.take_length]
  exact hk)
end E1

namespace E1
open PySem PySem.Spec PyProof.Rows L2
abbrev s_Net___eq__ : Stmt := inClass (topS 62) 10
abbrev s_Net___str__ : Stmt := inClass (topS 62) 11
abbrev s_Net___repr__ : Stmt := inClass (topS 62) 12
abbrev s_Net_forms : Stmt := inClass (topS 62) 1
abbrev s_Net_enters : Stmt := inClass (topS 62) 2
abbrev s_Net_rows : Stmt := inClass (topS 62) 3
abbrev s_Net_holds : Stmt := inClass (topS 62) 4
abbrev s_Net_out : Stmt := inClass (topS 62) 5
abbrev s_Net_points : Stmt := inClass (topS 62) 6
abbrev s_Net_keeps : Stmt := inClass (topS 62) 7
abbrev s_Net_start : Stmt := inClass (topS 62) 8
abbrev s_Net___len__ : Stmt := inClass (topS 62) 9

def NIs (C CN : Addr) (H : Hp) (p : Addr) (n : NetP) : Prop := NetAt C CN H p n
/-- a method of a net that tells a new list -/
def spFormsM (C CN : Addr) : Sp := fun vs H Q _ => ∃ (p : Addr) (n : NetP), vs = [.ref p] ∧ NetAt C CN H p n ∧ ∀ l fv H', H l = none → Same H H' → H' l = some (.lst fv) → FsAt C H' fv n.fs → Q (.ref l) H'
def spRowsM (C CN : Addr) : Sp := fun vs H Q _ => ∃ (p : Addr) (n : NetP), vs = [.ref p] ∧ NetAt C CN H p n ∧ ∀ l rv H', H l = none → Same H H' → H' l = some (.lst rv) → TsAt H' rv (n.rows.map Row.vs) → Q (.ref l) H'
def spHoldsM (C CN : Addr) : Sp := fun vs H Q _ => ∃ (p : Addr) (n : NetP), vs = [.ref p] ∧ NetAt C CN H p n ∧ ∀ l hv H', H l = none → Same H H' → H' l = some (.lst hv) → TsAt H' hv (n.holds.map Hold.vs) → Q (.ref l) H'
def spPtsM (C CN : Addr) : Sp := fun vs H Q _ => ∃ (p : Addr) (n : NetP), vs = [.ref p] ∧ NetAt C CN H p n ∧ ∀ l H', H l = none → Same H H' → H' l = some (.lst (n.pts.map V.int)) → Q (.ref l) H'
def spEnM (C CN : Addr) : Sp := fun vs H Q _ => ∃ (p : Addr) (n : NetP), vs = [.ref p] ∧ NetAt C CN H p n ∧ Q (.int n.en) H
def spEnterForm (C CN : Addr) : Sp := fun vs H Q _ => ∃ (p : Addr) (n : NetP), vs = [.ref p] ∧ NetAt C CN H p n ∧ ∀ q H', Same H H' → FAt C H' q (frm n.fs n.en) → Q (.ref q) H'
def spSumNum : Sp := fun vs H Q _ => ∃ (ra na pa : Addr) (r : Row) (a b : Nat) (sg : Int) (nums pts : List Int), vs = [.ref ra, .ref na, .ref pa] ∧ H ra = some (.tup r.vs) ∧ ((r = .plus a b ∧ sg = 1) ∨ (r = .less a b ∧ sg = -1)) ∧ H na = some (.lst (nums.map V.int)) ∧ H pa = some (.lst (pts.map V.int)) ∧ a < nums.length ∧ b < nums.length ∧ nums.length ≤ pts.length ∧ (∀ k ∈ nums, k.natAbs < 2 ^ 900000) ∧ (∀ p ∈ pts, -200 ≤ p ∧ p ≤ 200) ∧ Q (.int (sumN pts nums a b sg)) H
def spNumRow (C : Addr) : Sp := fun vs H Q _ => ∃ (ra na fa pa : Addr) (r : Row) (fv : List V) (fs : List FormP) (hc : Nat) (x : Int) (st nums pts : List Int), vs = [.ref ra, .ref na, .ref fa, .ref pa] ∧ H ra = some (.tup r.vs) ∧ r.kd ≠ .inn ∧ r.kd ≠ .old ∧ H na = some (.lst (nums.map V.int)) ∧ H fa = some (.lst fv) ∧ FsAt C H fv fs ∧ H pa = some (.lst (pts.map V.int)) ∧ RowOk hc fs.length nums.length r ∧ nums.length ≤ pts.length ∧ (∀ k ∈ nums, k.natAbs < 2 ^ 900000) ∧ (∀ p ∈ pts, -200 ≤ p ∧ p ≤ 200) ∧
  ∀ H', Same H H' → Q (.int (numRow fs pts x st nums r)) H'
def spSwept (C CN fR : Addr) : Sp := fun vs H Q _ => ∃ (p sa : Addr) (n : NetP) (x : Int) (st : List Int), vs = [.ref p, .int x, .ref sa, .ref fR] ∧ NetAt C CN H p n ∧ H sa = some (.tup (st.map V.int)) ∧ st.length = n.holds.length ∧ NumOk n x st ∧ ∀ l H', H l = none → Same H H' → H' l = some (.lst ((n.nums x st).map V.int)) → Q (.ref l) H'
/-- a state of a net -/
structure StOk (n : NetP) (st : List Int) : Prop where
  len : st.length = n.holds.length
  inr : ∀ (i : Nat) (h : Hold) (k : Int), n.holds[i]? = some h → st[i]? = some k → inR (frm n.fs h.k).w k = true
def spIsState (C CN : Addr) : Sp := fun vs H Q _ => ∃ (p sa : Addr) (n : NetP) (st : List Int), vs = [.ref p, .ref sa] ∧ NetAt C CN H p n ∧ H sa = some (.tup (st.map V.int)) ∧ StOk n st ∧ ∀ H', Same H H' → Q (.bl true) H'
def spCkState (C CN : Addr) : Sp := fun vs H Q _ => ∃ (p sa : Addr) (n : NetP) (st : List Int), vs = [.ref p, .ref sa] ∧ NetAt C CN H p n ∧ H sa = some (.tup (st.map V.int)) ∧ StOk n st ∧ ∀ H', Same H H' → Q .non H'
def spCkWord (C CN : Addr) : Sp := fun vs H Q _ => ∃ (p : Addr) (n : NetP) (x : Int), vs = [.ref p, .int x] ∧ NetAt C CN H p n ∧ inR (frm n.fs n.en).w x = true ∧ ∀ H', Same H H' → Q .non H'
def NetP.behind (n : NetP) (nums : List Int) : List Int := n.holds.map fun h => nums.getD h.l 0
def spBehind (C CN : Addr) : Sp := fun vs H Q _ => ∃ (p na : Addr) (n : NetP) (nums : List Int), vs = [.ref p, .ref na] ∧ NetAt C CN H p n ∧ H na = some (.lst (nums.map V.int)) ∧ nums.length = n.rows.length ∧ ∀ t H', H t = none → Same H H' → H' t = some (.tup ((n.behind nums).map V.int)) → Q (.ref t) H'
/-- what a turn tells: a new tuple of a new list and a new tuple -/
def TurnOut (H : Hp) (Q : VK) (ns st' : List Int) : Prop := ∀ t l s H', Same H H' → H t = none → H l = none → H s = none → H' t = some (.tup [.ref l, .ref s]) → H' l = some (.lst (ns.map V.int)) → H' s = some (.tup (st'.map V.int)) → Q (.ref t) H'
def spTurnOf (C CN : Addr) : Sp := fun vs H Q _ => ∃ (p sa : Addr) (n : NetP) (x : Int) (st : List Int), vs = [.ref p, .ref sa, .int x] ∧ NetAt C CN H p n ∧ H sa = some (.tup (st.map V.int)) ∧ st.length = n.holds.length ∧ NumOk n x st ∧ TurnOut H Q (n.nums x st) (n.behind (n.nums x st))
def spTurned (C CN : Addr) : Sp := fun vs H Q _ => ∃ (p sa : Addr) (n : NetP) (x : Int) (st : List Int), vs = [.ref p, .ref sa, .int x] ∧ NetAt C CN H p n ∧ H sa = some (.tup (st.map V.int)) ∧ StOk n st ∧ inR (frm n.fs n.en).w x = true ∧ NumOk n x st ∧ TurnOut H Q (n.nums x st) (n.behind (n.nums x st))
section
variable {fl : Addr} {en : Int} {rl hl : Addr} {out : Int} {pl : Addr}
theorem fks_ne : ∀ i j : Fin 6, i ≠ j → ((fks[i.val]'i.isLt) == (fks[j.val]'j.isLt)) = false := by decide +kernel
theorem nl_f : (nflds fl en rl hl out pl).lookup ("form_list" : Str) = some (.ref fl) := by
  unfold nflds
  rw [List.lookup_cons, beq_self_eq_true]
theorem nl_e : (nflds fl en rl hl out pl).lookup ("enters_at" : Str) = some (.int en) := by
  unfold nflds
  rw [List.lookup_cons, show (("enters_at" : Str) == "form_list") = false from fks_ne 1 0 (by decide), List.lookup_cons, beq_self_eq_true]
theorem nl_r : (nflds fl en rl hl out pl).lookup ("row_list" : Str) = some (.ref rl) := by
  unfold nflds
  rw [List.lookup_cons, show (("row_list" : Str) == "form_list") = false from fks_ne 2 0 (by decide), List.lookup_cons, show (("row_list" : Str) == "enters_at") = false from fks_ne 2 1 (by decide), List.lookup_cons, beq_self_eq_true]
theorem nl_h : (nflds fl en rl hl out pl).lookup ("hold_list" : Str) = some (.ref hl) := by
  unfold nflds
  rw [List.lookup_cons, show (("hold_list" : Str) == "form_list") = false from fks_ne 3 0 (by decide), List.lookup_cons, show (("hold_list" : Str) == "enters_at") = false from fks_ne 3 1 (by decide), List.lookup_cons, show (("hold_list" : Str) == "row_list") = false from fks_ne 3 2 (by decide), List.lookup_cons, beq_self_eq_true]
theorem nl_o : (nflds fl en rl hl out pl).lookup ("out_at" : Str) = some (.int out) := by
  unfold nflds
  rw [List.lookup_cons, show (("out_at" : Str) == "form_list") = false from fks_ne 4 0 (by decide), List.lookup_cons, show (("out_at" : Str) == "enters_at") = false from fks_ne 4 1 (by decide), List.lookup_cons, show (("out_at" : Str) == "row_list") = false from fks_ne 4 2 (by decide), List.lookup_cons, show (("out_at" : Str) == "hold_list") = false from fks_ne 4 3 (by decide), List.lookup_cons, beq_self_eq_true]
theorem nl_p : (nflds fl en rl hl out pl).lookup ("point_list" : Str) = some (.ref pl) := by
  unfold nflds
  rw [List.lookup_cons, show (("point_list" : Str) == "form_list") = false from fks_ne 5 0 (by decide), List.lookup_cons, show (("point_list" : Str) == "enters_at") = false from fks_ne 5 1 (by decide), List.lookup_cons, show (("point_list" : Str) == "row_list") = false from fks_ne 5 2 (by decide), List.lookup_cons, show (("point_list" : Str) == "hold_list") = false from fks_ne 5 3 (by decide), List.lookup_cons, show (("point_list" : Str) == "out_at") = false from fks_ne 5 4 (by decide), List.lookup_cons, beq_self_eq_true]
theorem nl_no {x : Str} (h : (fks.map fun k => x == k) = [false, false, false, false, false, false]) : (nflds fl en rl hl out pl).lookup x = none := by
  have e : ∀ i : Nat, (fks.map fun k => x == k)[i]? = [false, false, false, false, false, false][i]? := fun i => by rw [h]
  have h0 : (x == ("form_list" : Str)) = false := Option.some.inj (e 0)
  have h1 : (x == ("enters_at" : Str)) = false := Option.some.inj (e 1)
  have h2 : (x == ("row_list" : Str)) = false := Option.some.inj (e 2)
  have h3 : (x == ("hold_list" : Str)) = false := Option.some.inj (e 3)
  have h4 : (x == ("out_at" : Str)) = false := Option.some.inj (e 4)
  have h5 : (x == ("point_list" : Str)) = false := Option.some.inj (e 5)
  unfold nflds
  rw [List.lookup_cons, h0, List.lookup_cons, h1, List.lookup_cons, h2, List.lookup_cons, h3, List.lookup_cons, h4, List.lookup_cons, h5]
  rfl
end
theorem pts_len (n : NetP) : n.pts.length = n.rows.length := ptsOf_len ..
theorem nums_len (n : NetP) (x : Int) (st : List Int) : (n.nums x st).length = n.rows.length := accL_len ..
theorem frm_at {fs : List FormP} {k : Nat} {f : FormP} (h : fs[k]? = some f) : frm fs k = f := by
  unfold frm
  rw [List.getD_eq_getElem?_getD, h]
  rfl
theorem FsAt.frm {C : Addr} {H : Hp} {vs : List V} {fs : List FormP} (h : FsAt C H vs fs) {k : Nat} (hk : k < fs.length) : ∃ p, vs[k]? = some (.ref p) ∧ FAt C H p (frm fs k) := by
  have e := List.getElem?_eq_getElem hk
  obtain ⟨p, a, b⟩ := h.at e
  exact ⟨p, a, by rw [frm_at e]; exact b⟩
theorem num_big {i : Nat} (h : i ≤ 60) {y : Nat} (l : y < 2 ^ SzN i) : y < 2 ^ 900000 := up l (by unfold SzN; omega)
theorem sumN_p (pts nums : List Int) (a b : Nat) : sumN pts nums a b 1 = nums.getD a 0 * 2 ^ ((if pts.getD b 0 > pts.getD a 0 then pts.getD b 0 else pts.getD a 0) - pts.getD a 0).toNat + nums.getD b 0 * 2 ^ ((if pts.getD b 0 > pts.getD a 0 then pts.getD b 0 else pts.getD a 0) - pts.getD b 0).toNat := by
  unfold sumN
  simp only [Int.one_mul]
theorem sumN_l (pts nums : List Int) (a b : Nat) : sumN pts nums a b (-1) = nums.getD a 0 * 2 ^ ((if pts.getD b 0 > pts.getD a 0 then pts.getD b 0 else pts.getD a 0) - pts.getD a 0).toNat - nums.getD b 0 * 2 ^ ((if pts.getD b 0 > pts.getD a 0 then pts.getD b 0 else pts.getD a 0) - pts.getD b 0).toNat := by
  unfold sumN
  simp only [Int.neg_mul, Int.one_mul, Int.sub_eq_add_neg]
theorem FsAt.butL {C a : Addr} {ys : List V} {H H' : Hp} {vs : List V} {fs : List FormP} (h : FsAt C H vs fs) (s : SameBut a H H') (ha : H a = some (.lst ys)) : FsAt C H' vs fs := by
  induction h with
  | nil => exact .nil
  | cons e _ ih =>
    obtain ⟨d, ho⟩ := e.ob
    exact .cons ⟨⟨d, s _ _ (ne_of ho ha (fun z => nomatch z)) ho⟩, e.wo, e.p0, e.p1⟩ ih
theorem kd_ne (a b : Kd7) (h : a ≠ b) : a.s ≠ b.s := by
  revert h
  cases a <;> cases b <;> first | (intro h; exact absurd rfl h) | (intro _; decide +kernel)
theorem kd_s {a b : Kd7} : decide (V.str a.s = V.str b.s) = decide (a.s = b.s) := by
  by_cases h : a.s = b.s
  · rw [h, decide_eq_true rfl, decide_eq_true rfl]
  · rw [decide_eq_false h, decide_eq_false (fun z => h (V.str.inj z))]
section
variable {P : Program} {w : World} {K : PySem.W.Frag} {mg : Str → Option Value} {base : Heap}
theorem sc_Net_forms : FnScope ["self"] ["self"] (defScope s_Net_forms) := ⟨rfl, rfl, rfl, by decide +kernel, rfl, by decide +kernel, by decide +kernel⟩
theorem ok_Net_forms {f : Addr} {fd : FuncData} {k : Nat} {C CN : Addr} (TN : NTxt K mg CN) (F : Fun K "forms" "Net.forms" s_Net_forms f fd) (z : Zs mg) : FnOk P w K mg base CX0 (k + 1) f fd ["self"] (spFormsM C CN) := by
  refine F.ok sc_Net_forms (fun vs H Q E h => ?_) (fun cdv A outer s H vs Q E hr h => ?_)
  · obtain ⟨p, n, rfl, _⟩ := h
    rfl
  · obtain ⟨p, n, rfl, ⟨ok, dx, fl, rl, hl2, pl, fv, rv, hv, b⟩, q⟩ := h
    refine ⟨_, (pss_one (ps_ret (pe_callTy call_list_of (by rfl) z.list (by decide +kernel) (pa_cons (pe_fld (pv 0) rfl) pa_nil)))), ?_⟩
    refine ⟨_, rfl, p, CN, dx, _, _, rfl, b.ob, TN.cl, TN.n_form_list, nl_f, _, _, rfl, .inl (SqL.of b.fa), fun l hl => ?_⟩
    generalize hG : upd _ l _ = G
    obtain ⟨s, h_l⟩ := upd_gen hG hl
    exact q l _ _ hl s h_l (b.fs.same s)
theorem sc_Net_rows : FnScope ["self"] ["self"] (defScope s_Net_rows) := ⟨rfl, rfl, rfl, by decide +kernel, rfl, by decide +kernel, by decide +kernel⟩
theorem ok_Net_rows {f : Addr} {fd : FuncData} {k : Nat} {C CN : Addr} (TN : NTxt K mg CN) (F : Fun K "rows" "Net.rows" s_Net_rows f fd) (z : Zs mg) : FnOk P w K mg base CX0 (k + 1) f fd ["self"] (spRowsM C CN) := by
  refine F.ok sc_Net_rows (fun vs H Q E h => ?_) (fun cdv A outer s H vs Q E hr h => ?_)
  · obtain ⟨p, n, rfl, _⟩ := h
    rfl
  · obtain ⟨p, n, rfl, ⟨ok, dx, fl, rl, hl2, pl, fv, rv, hv, b⟩, q⟩ := h
    refine ⟨_, (pss_one (ps_ret (pe_callTy call_list_of (by rfl) z.list (by decide +kernel) (pa_cons (pe_fld (pv 0) rfl) pa_nil)))), ?_⟩
    refine ⟨_, rfl, p, CN, dx, _, _, rfl, b.ob, TN.cl, TN.n_row_list, nl_r, _, _, rfl, .inl (SqL.of b.ra), fun l hl => ?_⟩
    generalize hG : upd _ l _ = G
    obtain ⟨s, h_l⟩ := upd_gen hG hl
    exact q l _ _ hl s h_l (b.rs.same s)
theorem sc_Net_holds : FnScope ["self"] ["self"] (defScope s_Net_holds) := ⟨rfl, rfl, rfl, by decide +kernel, rfl, by decide +kernel, by decide +kernel⟩
theorem ok_Net_holds {f : Addr} {fd : FuncData} {k : Nat} {C CN : Addr} (TN : NTxt K mg CN) (F : Fun K "holds" "Net.holds" s_Net_holds f fd) (z : Zs mg) : FnOk P w K mg base CX0 (k + 1) f fd ["self"] (spHoldsM C CN) := by
  refine F.ok sc_Net_holds (fun vs H Q E h => ?_) (fun cdv A outer s H vs Q E hr h => ?_)
  · obtain ⟨p, n, rfl, _⟩ := h
    rfl
  · obtain ⟨p, n, rfl, ⟨ok, dx, fl, rl, hl2, pl, fv, rv, hv, b⟩, q⟩ := h
    refine ⟨_, (pss_one (ps_ret (pe_callTy call_list_of (by rfl) z.list (by decide +kernel) (pa_cons (pe_fld (pv 0) rfl) pa_nil)))), ?_⟩
    refine ⟨_, rfl, p, CN, dx, _, _, rfl, b.ob, TN.cl, TN.n_hold_list, nl_h, _, _, rfl, .inl (SqL.of b.ha), fun l hl => ?_⟩
    generalize hG : upd _ l _ = G
    obtain ⟨s, h_l⟩ := upd_gen hG hl
    exact q l _ _ hl s h_l (b.hs.same s)
theorem sc_Net_points : FnScope ["self"] ["self"] (defScope s_Net_points) := ⟨rfl, rfl, rfl, by decide +kernel, rfl, by decide +kernel, by decide +kernel⟩
theorem ok_Net_points {f : Addr} {fd : FuncData} {k : Nat} {C CN : Addr} (TN : NTxt K mg CN) (F : Fun K "points" "Net.points" s_Net_points f fd) (z : Zs mg) : FnOk P w K mg base CX0 (k + 1) f fd ["self"] (spPtsM C CN) := by
  refine F.ok sc_Net_points (fun vs H Q E h => ?_) (fun cdv A outer s H vs Q E hr h => ?_)
  · obtain ⟨p, n, rfl, _⟩ := h
    rfl
  · obtain ⟨p, n, rfl, ⟨ok, dx, fl, rl, hl2, pl, fv, rv, hv, b⟩, q⟩ := h
    refine ⟨_, (pss_one (ps_ret (pe_callTy call_list_of (by rfl) z.list (by decide +kernel) (pa_cons (pe_fld (pv 0) rfl) pa_nil)))), ?_⟩
    refine ⟨_, rfl, p, CN, dx, _, _, rfl, b.ob, TN.cl, TN.n_point_list, nl_p, _, _, rfl, .inl (SqL.of b.pa), fun l hl => ?_⟩
    generalize hG : upd _ l _ = G
    obtain ⟨s, h_l⟩ := upd_gen hG hl
    exact q l _ hl s h_l
theorem sc_Net_enters : FnScope ["self"] ["self"] (defScope s_Net_enters) := ⟨rfl, rfl, rfl, by decide +kernel, rfl, by decide +kernel, by decide +kernel⟩
theorem ok_Net_enters {f : Addr} {fd : FuncData} {k : Nat} {C CN : Addr} (TN : NTxt K mg CN) (F : Fun K "enters" "Net.enters" s_Net_enters f fd) : FnOk P w K mg base CX0 (k + 1) f fd ["self"] (spEnM C CN) := by
  refine F.ok sc_Net_enters (fun vs H Q E h => ?_) (fun cdv A outer s H vs Q E hr h => ?_)
  · obtain ⟨p, n, rfl, _⟩ := h
    rfl
  · obtain ⟨p, n, rfl, ⟨ok, dx, fl, rl, hl2, pl, fv, rv, hv, b⟩, q⟩ := h
    refine ⟨_, (pss_one (ps_ret (pe_fld (pv 0) rfl))), ?_⟩
    exact ⟨_, rfl, p, CN, dx, _, _, rfl, b.ob, TN.cl, TN.n_enters_at, nl_e, q⟩
end
end E1

namespace E1
open PySem PySem.Spec PyProof.Rows L2
section
variable {P : Program} {w : World} {K : PySem.W.Frag} {mg : Str → Option Value} {base : Heap}
theorem sc_enter_form : FnScope ["net"] ["net"] (defScope s_enter_form) := ⟨rfl, rfl, rfl, by decide +kernel, rfl, by decide +kernel, by decide +kernel⟩
theorem ok_enter_form {f : Addr} {fd : FuncData} {C CN : Addr} (TN : NTxt K mg CN) (F : Fun K "enter_form" "enter_form" s_enter_form f fd) (n_forms : CalM P w K mg base 1 CN "forms" ["self"] (spFormsM C CN)) (n_enters : CalM P w K mg base 1 CN "enters" ["self"] (spEnM C CN)) : FnOk P w K mg base CX0 2 f fd ["net"] (spEnterForm C CN) := by
  refine F.ok sc_enter_form (fun vs H Q E h => ?_) (fun cdv A outer s H vs Q E hr h => ?_)
  · obtain ⟨p, n, rfl, _⟩ := h
    rfl
  · obtain ⟨p, n, rfl, hn, q⟩ := h
    refine ⟨_, (pss_one (ps_ret (pe_ix ix_list (pe_calm0 (pv 0) TN.cl n_forms hr) (pe_calm0 (pv 0) TN.cl n_enters hr) (fun _ _ => rfl)))), ?_⟩
    obtain ⟨ok, dx, fl, rl, hl, pl, fv, rv, hv, b⟩ := id hn
    refine ⟨_, rfl, p, dx, _, rfl, b.ob, nl_no (by decide +kernel), p, n, rfl, hn, fun l fv2 H1 hl1 s1 h_l hf => ?_⟩
    obtain ⟨q1, e1, f1⟩ := hf.frm ok.en
    refine ⟨_, rfl, p, dx, _, rfl, s1 _ _ b.ob, nl_no (by decide +kernel), p, n, rfl, hn.same s1, ?_⟩
    exact ⟨l, _, _, .ref q1, rfl, rfl, SqL.of h_l, atI_nat e1, q q1 _ s1 f1⟩
theorem sc_sum_number : FnScope ["row", "numbers", "points", "word", "one", "other", "point", "left", "right"] ["row", "numbers", "points"] (defScope s_sum_number) := ⟨rfl, rfl, rfl, by decide +kernel, rfl, by decide +kernel, by decide +kernel⟩
theorem ok_sum_number {f : Addr} {fd : FuncData} {k : Nat} (F : Fun K "sum_number" "sum_number" s_sum_number f fd) (z : Zs mg) : FnOk P w K mg base CX0 (k + 1) f fd ["row", "numbers", "points"] spSumNum := by
  refine F.ok sc_sum_number (fun vs H Q E h => ?_) (fun cdv A outer s H vs Q E hr h => ?_)
  · obtain ⟨ra, na, pa, r, a, b, sg, nums, pts, rfl, _⟩ := h
    rfl
  · obtain ⟨ra, na, pa, r, a, b, sg, nums, pts, rfl, hra, hr2, hna, hpa, la, lb, lp, hn, hp, q⟩ := h
    refine ⟨_, (pss_cons (ps_asg (pv 0) (pg_tup (by rfl) (pgs_cons (pg_name (i := 3) sc_sum_number.nd rfl (.inl rfl)) (pgs_cons (pg_name (i := 4) sc_sum_number.nd rfl (.inl rfl)) (pgs_cons (pg_name (i := 5) sc_sum_number.nd rfl (.inl rfl)) pgs_nil)))))
      (pss_cons (ps_set (i := 6) sc_sum_number.nd rfl (.inl rfl) (pe_callB (call_max2 rfl) (by rfl) z.max (by decide +kernel) (pa_cons (pe_ix ix_list (pv 2) (pv 4) (fun _ _ => rfl)) (pa_cons (pe_ix ix_list (pv 2) (pv 5) (fun _ _ => rfl)) pa_nil))))
      (pss_cons (ps_set (i := 7) sc_sum_number.nd rfl (.inl rfl) (pe_op op_shlW (pe_ix ix_list (pv 1) (pv 4) (fun _ _ => rfl)) (pe_op op_sub (pv 6) (pe_ix ix_list (pv 2) (pv 4) (fun _ _ => rfl)))))
      (pss_cons (ps_set (i := 8) sc_sum_number.nd rfl (.inl rfl) (pe_op op_shlW (pe_ix ix_list (pv 1) (pv 5) (fun _ _ => rfl)) (pe_op op_sub (pv 6) (pe_ix ix_list (pv 2) (pv 5) (fun _ _ => rfl)))))
      (pss_one (ps_ret (pe_ifExp (pt_cmpR op_eq (pv 3) pe_str (nomark _)) (pe_op op_add (pv 7) (pv 8)) (pe_op op_sub (pv 7) (pv 8))))))))), ?_⟩
    have la' : a < pts.length := by omega
    have lb' : b < pts.length := by omega
    have pp : ∀ c, c < pts.length → -200 ≤ pts.getD c 0 ∧ pts.getD c 0 ≤ 200 := fun c hc => hp _ (by
      rw [List.getD_eq_getElem?_getD, List.getElem?_eq_getElem hc]
      exact List.getElem_mem _)
    obtain ⟨a0, a1⟩ := pp a la'
    obtain ⟨b0, b1⟩ := pp b lb'
    have nn : ∀ c, (nums.getD c 0).natAbs < 2 ^ 900000 := fun c => getD_lt hn (Nat.pow_pos (by decide))
    have sh : ∀ c, c < pts.length → CShl (nums.getD c 0) ((if pts.getD b 0 > pts.getD a 0 then pts.getD b 0 else pts.getD a 0) - pts.getD c 0) ∨ ¬ (c = a ∨ c = b) := fun c hc => by
      by_cases hh : c = a ∨ c = b
      · left
        have e : ((if pts.getD b 0 > pts.getD a 0 then pts.getD b 0 else pts.getD a 0) - pts.getD c 0) = ((((if pts.getD b 0 > pts.getD a 0 then pts.getD b 0 else pts.getD a 0) - pts.getD c 0).toNat : Nat) : Int) := by
          rcases hh with rfl | rfl <;> split <;> omega
        rw [e]
        refine shl_ok (nn c) ?_
        rcases hh with rfl | rfl <;> split <;> omega
      · exact .inr hh
    have sa := (sh a la').resolve_right (fun z => z (.inl rfl))
    have sb := (sh b lb').resolve_right (fun z => z (.inr rfl))
    rcases hr2 with ⟨rfl, rfl⟩ | ⟨rfl, rfl⟩
    · refine ⟨_, rfl, ra, _, rfl, SqT.of hra, rfl, _, _, rfl, _, _, rfl, _, _, rfl, rfl, _, rfl, _, rfl, pa, _, _, _, rfl, rfl, SqL.of hpa, ints_at la', _, rfl, _, rfl, pa, _, _, _, rfl, rfl, SqL.of hpa, ints_at lb', _, _, rfl, _, rfl, _, rfl, na, _, _, _, rfl, rfl, SqL.of hna, ints_at la, _, rfl, _, rfl, _, rfl, pa, _, _, _, rfl, rfl, SqL.of hpa, ints_at la', _, _, rfl, rfl, _, _, rfl, rfl, sa, _, rfl, _, rfl, na, _, _, _, rfl, rfl, SqL.of hna, ints_at lb, _, rfl, _, rfl, _, rfl, pa, _, _, _, rfl, rfl, SqL.of hpa, ints_at lb', _, _, rfl, rfl, _, _, rfl, rfl, sb, _, rfl, rfl, _, rfl, ?_⟩
      refine iteC (d := true) (decide_eq_true rfl) (iteT ⟨_, rfl, _, rfl, _, _, rfl, rfl, ?_⟩)
      rw [sumN_p] at q
      exact q
    · refine ⟨_, rfl, ra, _, rfl, SqT.of hra, rfl, _, _, rfl, _, _, rfl, _, _, rfl, rfl, _, rfl, _, rfl, pa, _, _, _, rfl, rfl, SqL.of hpa, ints_at la', _, rfl, _, rfl, pa, _, _, _, rfl, rfl, SqL.of hpa, ints_at lb', _, _, rfl, _, rfl, _, rfl, na, _, _, _, rfl, rfl, SqL.of hna, ints_at la, _, rfl, _, rfl, _, rfl, pa, _, _, _, rfl, rfl, SqL.of hpa, ints_at la', _, _, rfl, rfl, _, _, rfl, rfl, sa, _, rfl, _, rfl, na, _, _, _, rfl, rfl, SqL.of hna, ints_at lb, _, rfl, _, rfl, _, rfl, pa, _, _, _, rfl, rfl, SqL.of hpa, ints_at lb', _, _, rfl, rfl, _, _, rfl, rfl, sb, _, rfl, rfl, _, rfl, ?_⟩
      refine iteC (d := false) (decide_eq_false (fun z => absurd (V.str.inj z) (by decide +kernel))) (iteF ⟨_, rfl, _, rfl, _, _, rfl, rfl, ?_⟩)
      rw [sumN_l] at q
      exact q
theorem sc_number_of_row : FnScope ["row", "numbers", "forms", "points", "kind"] ["row", "numbers", "forms", "points"] (defScope s_number_of_row) := ⟨rfl, rfl, rfl, by decide +kernel, rfl, by decide +kernel, by decide +kernel⟩
theorem ok_number_of_row {f : Addr} {fd : FuncData} {C : Addr} (T : FTxt K mg C) (F : Fun K "number_of_row" "number_of_row" s_number_of_row f fd) (m_kept_at : CalM P w K mg base 5 C "kept_at" ["self", "number", "point"] (spKeptAt C)) (c_sum_number : Cal P w K mg base 1 "sum_number" ["row", "numbers", "points"] spSumNum) : FnOk P w K mg base CX0 6 f fd ["row", "numbers", "forms", "points"] (spNumRow C) := by
  refine F.ok sc_number_of_row (fun vs H Q E h => ?_) (fun cdv A outer s H vs Q E hr h => ?_)
  · obtain ⟨ra, na, fa, pa, r, fv, fs, hc, x, st, nums, pts, rfl, _⟩ := h
    rfl
  · obtain ⟨ra, na, fa, pa, r, fv, fs, hc, x, st, nums, pts, rfl, hra, ki, ko, hna, hfa, hf, hpa, hok, lp, hn, hp, q⟩ := h
    refine ⟨_, (pss_cons (ps_set (i := 4) sc_number_of_row.nd rfl (.inl rfl) (pe_ix ix_tup (pv 0) pe_int (fun _ _ => rfl)))
      (pss_cons (ps_if (pt_cmpR op_eq (pv 4) pe_str (nomark _)) (pss_one (ps_ret (pe_op op_mul (pe_ix ix_tup (pv 0) pe_int (fun _ _ => rfl)) (pe_ix ix_list (pv 1) (pe_ix ix_tup (pv 0) pe_int (fun _ _ => rfl)) (fun _ _ => rfl))))) pss_nil)
      (pss_cons (ps_if (pt_cmpR op_eq (pv 4) pe_str (nomark _)) (pss_one (ps_ret (pe_ix ix_list (pv 1) (pe_ix ix_tup (pv 0) pe_int (fun _ _ => rfl)) (fun _ _ => rfl)))) pss_nil)
      (pss_cons (ps_if (pt_cmpR op_eq (pv 4) pe_str (nomark _)) (pss_one (ps_ret (pe_ix ix_tup (pe_calm (pe_ix ix_list (pv 2) (pe_ix ix_tup (pv 0) pe_int (fun _ _ => rfl)) (fun _ _ => rfl)) T.cl m_kept_at hr (pa_cons (pe_ix ix_list (pv 1) (pe_ix ix_tup (pv 0) pe_int (fun _ _ => rfl)) (fun _ _ => rfl)) (pa_cons (pe_ix ix_list (pv 3) (pe_ix ix_tup (pv 0) pe_int (fun _ _ => rfl)) (fun _ _ => rfl)) pa_nil))) pe_int (fun _ _ => rfl)))) pss_nil)
      (pss_one (ps_ret (pe_cal c_sum_number hr (pa_cons (pv 0) (pa_cons (pv 1) (pa_cons (pv 3) pa_nil)))))))))), ?_⟩
    have nn : ∀ c, (nums.getD c 0).natAbs < 2 ^ 900000 := fun c => getD_lt hn (Nat.pow_pos (by decide))
    match r, ki, ko, hok, hra, q with
    | .inn, ki, _, _, _, _ => exact absurd rfl ki
    | .old _, _, ko, _, _, _ => exact absurd rfl ko
    | .times f m a, _, _, hok, hra, q =>
      obtain ⟨h1, h2, h3⟩ := hok
      refine ⟨_, rfl, ra, _, 0, .str _, rfl, rfl, SqT.of hra, a0, _, rfl, rfl, _, rfl, iteC (d := true) (decide_eq_true rfl) (iteT ?_)⟩
      exact ⟨_, rfl, ra, _, 1, .int f, rfl, rfl, SqT.of hra, a1, _, rfl, _, rfl, ra, _, 3, .int a, rfl, rfl, SqT.of hra, atI_nat (j := 3) rfl, na, _, _, _, rfl, rfl, SqL.of hna, ints_at h3, _, _, rfl, rfl, .inl ⟨by omega, by omega⟩, q _ (Same.refl _)⟩
    | .move m a, _, _, hok, hra, q =>
      obtain ⟨h1, h2⟩ := hok
      refine ⟨_, rfl, ra, _, 0, .str _, rfl, rfl, SqT.of hra, a0, _, rfl, rfl, _, rfl, iteC (d := false) (decide_eq_false (fun z => absurd (V.str.inj z) (by decide +kernel))) (iteF ⟨_, rfl, rfl, _, rfl, iteC (d := true) (decide_eq_true rfl) (iteT ?_)⟩)⟩
      exact ⟨_, rfl, _, rfl, ra, _, 2, .int a, rfl, rfl, SqT.of hra, a2, na, _, _, _, rfl, rfl, SqL.of hna, ints_at h2, q _ (Same.refl _)⟩
    | .keep f a, _, _, hok, hra, q =>
      obtain ⟨h1, h2⟩ := hok
      obtain ⟨p, ep, fp⟩ := hf.frm h1
      obtain ⟨dx, ho⟩ := fp.ob
      have h3 : a < pts.length := by omega
      obtain ⟨p0, p1⟩ := hp (pts.getD a 0) (by
        rw [List.getD_eq_getElem?_getD, List.getElem?_eq_getElem h3]
        exact List.getElem_mem _)
      refine ⟨_, rfl, ra, _, 0, .str _, rfl, rfl, SqT.of hra, a0, _, rfl, rfl, _, rfl, iteC (d := false) (decide_eq_false (fun z => absurd (V.str.inj z) (by decide +kernel))) (iteF ⟨_, rfl, rfl, _, rfl, iteC (d := false) (decide_eq_false (fun z => absurd (V.str.inj z) (by decide +kernel))) (iteF ⟨_, rfl, rfl, _, rfl, iteC (d := true) (decide_eq_true rfl) (iteT ?_)⟩)⟩)⟩
      refine ⟨_, rfl, _, rfl, ra, _, 1, .int f, rfl, rfl, SqT.of hra, a1, fa, _, _, .ref p, rfl, rfl, SqL.of hfa, atI_nat ep, p, dx, _, rfl, ho, fl_no (by decide +kernel), _, rfl, _, rfl, ra, _, 2, .int a, rfl, rfl, SqT.of hra, a2, na, _, _, _, rfl, rfl, SqL.of hna, ints_at h2, _, rfl, _, rfl, ra, _, 2, .int a, rfl, rfl, SqT.of hra, a2, pa, _, _, _, rfl, rfl, SqL.of hpa, ints_at h3, p, _, _, _, _, _, _, rfl, fp, p0, p1, nn a, fun t H' ht s h_t => ?_⟩
      exact ⟨t, _, 0, _, rfl, rfl, SqT.of h_t, a0, q _ s⟩
    | .plus a b, _, _, hok, hra, q =>
      obtain ⟨h1, h2⟩ := hok
      refine ⟨_, rfl, ra, _, 0, .str _, rfl, rfl, SqT.of hra, a0, _, rfl, rfl, _, rfl, iteC (d := false) (decide_eq_false (fun z => absurd (V.str.inj z) (by decide +kernel))) (iteF ⟨_, rfl, rfl, _, rfl, iteC (d := false) (decide_eq_false (fun z => absurd (V.str.inj z) (by decide +kernel))) (iteF ⟨_, rfl, rfl, _, rfl, iteC (d := false) (decide_eq_false (fun z => absurd (V.str.inj z) (by decide +kernel))) (iteF ?_)⟩)⟩)⟩
      exact ⟨_, rfl, _, rfl, _, rfl, ra, na, pa, .plus a b, a, b, 1, nums, pts, rfl, hra, .inl ⟨rfl, rfl⟩, hna, hpa, h1, h2, lp, hn, hp, q _ (Same.refl _)⟩
    | .less a b, _, _, hok, hra, q =>
      obtain ⟨h1, h2⟩ := hok
      refine ⟨_, rfl, ra, _, 0, .str _, rfl, rfl, SqT.of hra, a0, _, rfl, rfl, _, rfl, iteC (d := false) (decide_eq_false (fun z => absurd (V.str.inj z) (by decide +kernel))) (iteF ⟨_, rfl, rfl, _, rfl, iteC (d := false) (decide_eq_false (fun z => absurd (V.str.inj z) (by decide +kernel))) (iteF ⟨_, rfl, rfl, _, rfl, iteC (d := false) (decide_eq_false (fun z => absurd (V.str.inj z) (by decide +kernel))) (iteF ?_)⟩)⟩)⟩
      exact ⟨_, rfl, _, rfl, _, rfl, ra, na, pa, .less a b, a, b, (-1), nums, pts, rfl, hra, .inr ⟨rfl, rfl⟩, hna, hpa, h1, h2, lp, hn, hp, q _ (Same.refl _)⟩
theorem sc_swept : FnScope ["net", "heard", "held", "rule", "forms", "points", "done", "row"] ["net", "heard", "held", "rule"] (defScope s_swept) := ⟨rfl, rfl, rfl, by decide +kernel, rfl, by decide +kernel, by decide +kernel⟩
theorem ok_swept {f : Addr} {fd : FuncData} {C CN fR : Addr} {fdR : FuncData} (okR : FnOk P w K mg base CX0 6 fR fdR ["row", "numbers", "forms", "points"] (spNumRow C)) (kR : PySem.W.keepIn K (.ref fR) = true) (bR : Binds K fdR ["row", "numbers", "forms", "points"] []) (TN : NTxt K mg CN) (F : Fun K "swept" "swept" s_swept f fd) (n_forms : CalM P w K mg base 1 CN "forms" ["self"] (spFormsM C CN)) (n_points : CalM P w K mg base 1 CN "points" ["self"] (spPtsM C CN)) (n_rows : CalM P w K mg base 1 CN "rows" ["self"] (spRowsM C CN)) : FnOk P w K mg base CX0 7 f fd ["net", "heard", "held", "rule"] (spSwept C CN fR) := by
  refine F.ok sc_swept (fun vs H Q E h => ?_) (fun cdv A outer s H vs Q E hr h => ?_)
  · obtain ⟨p, sa, n, x, st, rfl, _⟩ := h
    rfl
  · obtain ⟨p, sa, n, x, st, rfl, hn, hsa, hls, ko, q⟩ := h
    refine ⟨_, (pss_cons (ps_set (i := 4) sc_swept.nd rfl (.inl rfl) (pe_calm0 (pv 0) TN.cl n_forms hr))
      (pss_cons (ps_set (i := 5) sc_swept.nd rfl (.inl rfl) (pe_calm0 (pv 0) TN.cl n_points hr))
      (pss_cons (ps_set (i := 6) sc_swept.nd rfl (.inl rfl) (pe_lst pa_nil))
      (pss_cons (ps_for PassesOwn.never rfl (pi_list (pe_calm0 (pv 0) TN.cl n_rows hr)) (pg_name (i := 7) sc_swept.nd rfl (.inl rfl)) (pss_one (ps_if (pt_cmpR op_eq (pe_ix ix_tup (pv 7) pe_int (fun _ _ => rfl)) pe_str (nomark _)) (pss_one (ps_expr (pe_bm PySem.F.plainAttrs_list PySem.F.slot_list_append PySem.F.type_list_append mt_append (pv 6) (pa_cons (pv 1) pa_nil)))) (pss_one (ps_if (pt_cmpR op_eq (pe_ix ix_tup (pv 7) pe_int (fun _ _ => rfl)) pe_str (nomark _)) (pss_one (ps_expr (pe_bm PySem.F.plainAttrs_list PySem.F.slot_list_append PySem.F.type_list_append mt_append (pv 6) (pa_cons (pe_ix ix_tup (pv 2) (pe_ix ix_tup (pv 7) pe_int (fun _ _ => rfl)) (fun _ _ => rfl)) pa_nil)))) (pss_one (ps_expr (pe_bm PySem.F.plainAttrs_list PySem.F.slot_list_append PySem.F.type_list_append mt_append (pv 6) (pa_cons (pe_callL (i := 3) okR hr rfl (Or.inl rfl) kR bR .nil pass0 (pa_cons (pv 7) (pa_cons (pv 6) (pa_cons (pv 4) (pa_cons (pv 5) pa_nil))))) pa_nil)))))))))
      (pss_one (ps_ret (pv 6))))))), ?_⟩
    obtain ⟨ok, dx, fl, rl, hl, pl, fv, rv, hv, b⟩ := id hn
    refine ⟨_, rfl, p, dx, _, rfl, b.ob, nl_no (by decide +kernel), p, n, rfl, hn, fun fl2 fv2 H1 hf1 s1 h_fl2 hff => ?_⟩
    refine ⟨_, rfl, p, dx, _, rfl, s1 _ _ b.ob, nl_no (by decide +kernel), p, n, rfl, hn.same s1, fun pl2 H2 hp2 s2 h_pl2 => ?_⟩
    refine ⟨(by show 0 ≤ sizeLine; decide), fun dl hdl => ?_⟩
    generalize hG : upd _ dl _ = H3
    obtain ⟨s3, h_dl⟩ := upd_gen hG hdl
    have S3 := (s1.trans s2).trans s3
    have hd0 : H dl = none := (s1.trans s2).free hdl
    refine ⟨_, rfl, p, dx, _, rfl, S3 _ _ b.ob, nl_no (by decide +kernel), p, n, rfl, hn.same S3, fun rl2 rv2 H4 hr4 s4 h_rl2 hrr => ?_⟩
    have S4 := S3.trans s4
    have ndf : fl2 ≠ dl := ne_of_none (s2 _ _ h_fl2) hdl
    have ndp : pl2 ≠ dl := ne_of_none h_pl2 hdl
    have nrd : rl2 ≠ dl := (ne_of_none h_dl hr4).symm
    replace h_dl := s4 _ _ h_dl
    replace h_fl2 := s4 _ _ (s3 _ _ (s2 _ _ h_fl2))
    replace h_pl2 := s4 _ _ (s3 _ _ h_pl2)
    replace hff := hff.same ((s2.trans s3).trans s4)
    have ll := hrr.len
    rw [List.length_map] at ll
    have hl60 := ok.r2
    have lpt := pts_len n
    refine ⟨rl2, rfl, ⟨_, SqL.of h_rl2⟩, ?_⟩
    refine for_it (walk_list (K := K) (a := rl2) (xs := rv2)) (fun i σ G => ∃ y : Option V, σ = [some (.ref p), some (.int x), some (.ref sa), some (.ref fR), some (.ref fl2), some (.ref pl2), some (.ref dl), y] ∧ SameBut dl H4 G ∧ G dl = some (.lst ((accL (numRow n.fs n.pts x st) (n.rows.take i)).map V.int))) ⟨none, rfl, SameBut.refl _ _, h_dl⟩ (fun i σ G hi hP => ?_) (fun i v σ G G' hi hP hY => ?_) (fun σ G hP => ?_)
    · obtain ⟨y, rfl, B, _⟩ := hP
      exact SqL.of (B _ _ nrd h_rl2)
    · obtain ⟨y, rfl, B, hd⟩ := hP
      obtain ⟨rfl, hx⟩ := hY
      obtain ⟨rp, xs, rfl, ex, hrp⟩ := hrr.get hx
      rw [List.getElem?_map] at ex
      obtain ⟨r, er, rfl⟩ := Option.map_eq_some_iff.mp ex
      have il := (List.getElem?_eq_some_iff.mp er).1
      replace hrp := B _ _ (ne_of hrp h_dl (fun z => nomatch z)) hrp
      have la : (accL (numRow n.fs n.pts x st) (n.rows.take i)).length = i := by
        rw [accL_len, List.length_take]
        omega
      have nx := accL_next (g := numRow n.fs n.pts x st) er
      have small : ((accL (numRow n.fs n.pts x st) (n.rows.take i)).map V.int).length < sizeLine := by
        rw [List.length_map, la]
        exact sl_lt (by omega)
      have step : ∀ (G2 : Hp), Same G' G2 → ∃ y : Option V, [some (V.ref p), some (.int x), some (.ref sa), some (.ref fR), some (.ref fl2), some (.ref pl2), some (.ref dl), some (.ref rp)] = [some (.ref p), some (.int x), some (.ref sa), some (.ref fR), some (.ref fl2), some (.ref pl2), some (.ref dl), y] ∧ SameBut dl H4 (upd G2 dl (.lst ((accL (numRow n.fs n.pts x st) (n.rows.take i)).map V.int ++ [V.int (numRow n.fs n.pts x st (accL (numRow n.fs n.pts x st) (n.rows.take i)) r)]))) ∧ (upd G2 dl (.lst ((accL (numRow n.fs n.pts x st) (n.rows.take i)).map V.int ++ [V.int (numRow n.fs n.pts x st (accL (numRow n.fs n.pts x st) (n.rows.take i)) r)]))) dl = some (.lst ((accL (numRow n.fs n.pts x st) (n.rows.take (i + 1))).map V.int)) := fun G2 s => by
        refine ⟨_, rfl, (B.trans (.of s)).trans SameBut.upd, ?_⟩
        rw [upd_same, nx, List.map_append]
        rfl
      refine ⟨_, rfl, rp, _, 0, .str r.kd.s, rfl, rfl, SqT.of hrp, atI_nat (j := 0) r.vs0, rfl, _, rfl, ?_⟩
      by_cases k1 : r.kd = .inn
      · refine iteC (d := true) (by rw [k1]; exact decide_eq_true rfl) (iteT ?_)
        match r, k1, step with
        | .inn, _, step => exact ⟨_, rfl, .inl ⟨rfl, _, SqL.of hd⟩, _, rfl, dl, _, _, rfl, rfl, hd, small, step _ (Same.refl _)⟩
      refine iteC (d := false) (decide_eq_false (fun z => kd_ne _ _ k1 (V.str.inj z))) (iteF ?_)
      refine ⟨_, rfl, rp, _, 0, .str r.kd.s, rfl, rfl, SqT.of hrp, atI_nat (j := 0) r.vs0, rfl, _, rfl, ?_⟩
      by_cases k2 : r.kd = .old
      · refine iteC (d := true) (by rw [k2]; exact decide_eq_true rfl) (iteT ?_)
        have hsa2 := B _ _ (ne_of (S4 _ _ hsa) h_dl (fun z => nomatch z)) (S4 _ _ hsa)
        match r, k2, step, hrp, ok.ro i r er with
        | .old k, _, step, hrp, hk =>
          have hk' : k < st.length := by rw [hls]; exact hk
          exact ⟨_, rfl, .inl ⟨rfl, _, SqL.of hd⟩, _, rfl, _, rfl, rp, _, 1, .int k, rfl, rfl, SqT.of hrp, a1, sa, _, _, _, rfl, rfl, SqT.of hsa2, ints_at hk', dl, _, _, rfl, rfl, hd, small, step _ (Same.refl _)⟩
      refine iteC (d := false) (decide_eq_false (fun z => kd_ne _ _ k2 (V.str.inj z))) (iteF ?_)
      refine ⟨_, rfl, .inl ⟨rfl, _, SqL.of hd⟩, rfl, _, rfl, _, rfl, _, rfl, _, rfl, rp, dl, fl2, pl2, r, fv2, n.fs, n.holds.length, x, st, _, n.pts, rfl, hrp, k1, k2, hd, B _ _ ndf h_fl2, hff.butL B h_dl, B _ _ ndp h_pl2, by rw [la]; exact ok.ro i r er, by omega, fun k hk => ko.pre hk, ok.po, fun G2 s => ?_⟩
      exact ⟨dl, _, _, rfl, rfl, s _ _ hd, small, step _ s⟩
    · obtain ⟨y, rfl, B, hd⟩ := hP
      rw [ll, List.take_length] at hd
      exact ⟨_, rfl, q dl _ hd0 (same_but S4 B hd0) hd⟩
end
end E1

namespace E1
open PySem PySem.Spec PyProof.Rows L2
section
variable {P : Program} {w : World} {K : PySem.W.Frag} {mg : Str → Option Value} {base : Heap}
theorem sc_is_state : FnScope ["net", "thing", "holds", "forms", "hold", "word"] ["net", "thing"] (defScope s_is_state) := ⟨rfl, rfl, rfl, by decide +kernel, rfl, by decide +kernel, by decide +kernel⟩
theorem ok_is_state {f : Addr} {fd : FuncData} {C CN : Addr} (T : FTxt K mg C) (TN : NTxt K mg CN) (F : Fun K "is_state" "is_state" s_is_state f fd) (z : Zs mg) (n_forms : CalM P w K mg base 1 CN "forms" ["self"] (spFormsM C CN)) (n_holds : CalM P w K mg base 1 CN "holds" ["self"] (spHoldsM C CN)) (m_has : CalM P w K mg base 2 C "has" ["self", "thing"] (spHas K C)) : FnOk P w K mg base CX0 3 f fd ["net", "thing"] (spIsState C CN) := by
  refine F.ok sc_is_state (fun vs H Q E h => ?_) (fun cdv A outer s H vs Q E hr h => ?_)
  · obtain ⟨p, sa, n, st, rfl, _⟩ := h
    rfl
  · obtain ⟨p, sa, n, st, rfl, hn, hsa, so, q⟩ := h
    refine ⟨_, (pss_cons (ps_set (i := 2) sc_is_state.nd rfl (.inl rfl) (pe_calm0 (pv 0) TN.cl n_holds hr))
      (pss_cons (ps_if (PW.pt (pw_or (pt_not (pt_val (pe_callB call_isi (by rfl) z.isinstance (by decide +kernel) (pa_cons (pv 1) (pa_cons (pe_bltn (v := .ty "tuple") (by rfl) z.tuple (by decide +kernel) rfl) pa_nil))))) (pw_or1 (pt_cmpR op_ne (pe_callB call_len_seq (by rfl) z.len PySem.boot_len (pa_cons (pv 1) pa_nil)) (pe_callB call_len_seq (by rfl) z.len PySem.boot_len (pa_cons (pv 2) pa_nil)) (nomark _))))) (pss_one (ps_ret pe_bl)) pss_nil)
      (pss_cons (ps_set (i := 3) sc_is_state.nd rfl (.inr rfl) (pe_calm0 (pv 0) TN.cl n_forms hr))
      (pss_one (ps_ret (pe_callB (cr_all rfl) (by rfl) z.all (by decide +kernel) (pa_cons (pe_lc (own := [("hold", 4), ("word", 5)]) (g := gTup K 2 (gCons (gName 4) (gCons (gName 5) gNil))) (tt := tYes) (te := tMeth C "has" (spHas K C) [] E0 (tOp (rIxL K) (tVar 3) (tOp (rIxT K) (tVar 4) (tC (.int 0)))) (tCons (tVar 5) tNil)) (by rfl) sc_is_state.nd (pi_zipM (by rfl) z.zip (pa_cons (pv 2) (pa_cons (pv 1) pa_nil))) (blkOk_by (own := [("hold", 4), ("word", 5)]) (N := ["net", "thing", "holds", "forms", "hold", "word"]) (sc := defScope s_is_state) (by decide +kernel)) (fun _ _ _ _ _ => by exact (pg_tup (by rfl) (pgs_cons (pg_name (i := 4) sc_is_state.nd rfl (.inl rfl)) (pgs_cons (pg_name (i := 5) sc_is_state.nd rfl (.inl rfl)) pgs_nil)))) (fun _ _ _ _ _ => by exact pts_nil) (fun _ _ _ _ _ => by exact (pe_calm (pe_ix ix_list (pv 3) (pe_ix ix_tup (pv 4) pe_int (fun _ _ => rfl)) (fun _ _ => rfl)) T.cl m_has hr (pa_cons (pv 5) pa_nil)))) pa_nil))))))), ?_⟩
    obtain ⟨ok, dx, fl, rl, hl, pl, fv, rv, hv, b⟩ := id hn
    have sl := so.len
    have h6 := ok.h2
    refine ⟨_, rfl, p, dx, _, rfl, b.ob, nl_no (by decide +kernel), p, n, rfl, hn, fun hl2 hv2 H1 hf1 s1 h_hl2 hhh => ?_⟩
    have lh := hhh.len
    rw [List.length_map] at lh
    refine ⟨_, rfl, _, .ty "tuple", _, _, true, rfl, .ty _, .base (.tup (s1 _ _ hsa)), kit_ty (by decide +kernel), _, rfl, iteF ⟨_, rfl, sa, _, rfl, .inr (SqT.of (s1 _ _ hsa)), _, rfl, hl2, _, rfl, .inl (SqL.of h_hl2), rfl, _, rfl, iteC (d := false) (by rw [List.length_map, sl, lh, decide_eq_true rfl]; rfl) (iteF ?_)⟩⟩
    refine ⟨_, rfl, p, dx, _, rfl, s1 _ _ b.ob, nl_no (by decide +kernel), p, n, rfl, hn.same s1, fun fl2 fv2 H2 hf2 s2 h_fl2 hff => ?_⟩
    have S2 := s1.trans s2
    have hsa2 := S2 _ _ hsa
    have hhl2 := s2 _ _ h_hl2
    refine ⟨_, rfl, _, rfl, hl2, sa, hv2, st.map V.int, rfl, SqL.of hhl2, SqT.of hsa2, fun D hD => ?_⟩
    refine lc_it (walk_zipM (K := K) (a := hl2) (b := sa) (xs := hv2) (ys := st.map V.int) (by rw [List.length_map]; omega)) (fun i G => Same H2 G ∧ G D = some (.lst ((List.replicate i true).map V.bl))) ⟨same_new hD, upd_same⟩ (fun i G _ hP => ⟨SqL.of (hP.1 _ _ hhl2), SqT.of (hP.1 _ _ hsa2)⟩) (fun i x G G' hi hP hY => ?_) (fun G hP => ?_)
    · obtain ⟨s3, hd⟩ := hP
      obtain ⟨Tp, u, v, rfl, nT, rfl, e1, e2⟩ := hY
      obtain ⟨hp, xs, rfl, ex, hhp⟩ := hhh.get e1
      replace e2 : (st.map V.int)[i]? = some v := e2
      rw [List.getElem?_map] at ex e2
      obtain ⟨hh, eh, rfl⟩ := Option.map_eq_some_iff.mp ex
      obtain ⟨k, ek, rfl⟩ := Option.map_eq_some_iff.mp e2
      have kl := (ok.ho hh (List.mem_of_getElem? eh)).1
      obtain ⟨fp, efp, hfp⟩ := hff.frm kl
      have sN := same_new (o := .tup [.ref hp, .int k]) nT
      have S3 := s3.trans sN
      have ffp := FormAt.same hfp S3
      obtain ⟨dxf, hof⟩ := ffp.ob
      refine ⟨Tp, _, rfl, SqT.of upd_same, rfl, _, _, rfl, _, _, rfl, rfl, rfl, ?_⟩
      refine ⟨_, rfl, _, rfl, hp, _, 0, .int hh.k, rfl, rfl, SqT.of (S3 _ _ (s2 _ _ hhp)), a0, fl2, _, _, .ref fp, rfl, rfl, SqL.of (S3 _ _ h_fl2), atI_nat efp, fp, dxf, _, rfl, hof, fl_no (by decide +kernel), _, rfl, fp, _, _, _, _, .int k, _, rfl, ffp, .inl ⟨k, rfl, rfl⟩, _, sN _ _ hd, ?_, fun c o e => ?_, ?_⟩
      · rw [List.length_map, List.length_replicate]
        exact sl_lt (by omega)
      · rw [upd_ne (ne_of_none e hD)]
        exact S3 _ _ e
      · rw [upd_same, so.inr i hh k eh ek, List.replicate_succ', List.map_append]
        rfl
    · obtain ⟨s3, hd⟩ := hP
      refine ⟨D, _, rfl, SqL.of hd, ?_⟩
      rw [show (List.replicate hv2.length true).all id = true by rw [List.all_eq_true]; exact fun x hx => (List.mem_replicate.mp hx).2]
      exact q _ (S2.trans s3)
theorem sc_check_state : FnScope ["net", "state"] ["net", "state"] (defScope s_check_state) := ⟨rfl, rfl, rfl, by decide +kernel, rfl, by decide +kernel, by decide +kernel⟩
theorem ok_check_state {f : Addr} {fd : FuncData} {C CN : Addr} (F : Fun K "check_state" "check_state" s_check_state f fd) (c_is_state : Cal P w K mg base 3 "is_state" ["net", "thing"] (spIsState C CN)) : FnOk P w K mg base CX0 4 f fd ["net", "state"] (spCkState C CN) := by
  refine F.ok sc_check_state (fun vs H Q E h => ?_) (fun cdv A outer s H vs Q E hr h => ?_)
  · obtain ⟨p, sa, n, st, rfl, _⟩ := h
    rfl
  · obtain ⟨p, sa, n, st, rfl, hn, hsa, so, q⟩ := h
    refine ⟨_, (pss_one (ps_if (pt_not (pt_val (pe_cal c_is_state hr (pa_cons (pv 0) (pa_cons (pv 1) pa_nil))))) (pss_one ps_never) pss_nil)), ?_⟩
    exact ⟨_, rfl, _, rfl, p, sa, n, st, rfl, hn, hsa, so, fun H' s => ⟨_, rfl, iteF (q _ s)⟩⟩
theorem sc_check_word : FnScope ["net", "word"] ["net", "word"] (defScope s_check_word) := ⟨rfl, rfl, rfl, by decide +kernel, rfl, by decide +kernel, by decide +kernel⟩
theorem ok_check_word {f : Addr} {fd : FuncData} {C CN : Addr} (T : FTxt K mg C) (F : Fun K "check_word" "check_word" s_check_word f fd) (c_enter_form : Cal P w K mg base 2 "enter_form" ["net"] (spEnterForm C CN)) (m_has : CalM P w K mg base 2 C "has" ["self", "thing"] (spHas K C)) : FnOk P w K mg base CX0 3 f fd ["net", "word"] (spCkWord C CN) := by
  refine F.ok sc_check_word (fun vs H Q E h => ?_) (fun cdv A outer s H vs Q E hr h => ?_)
  · obtain ⟨p, n, x, rfl, _⟩ := h
    rfl
  · obtain ⟨p, n, x, rfl, hn, hi, q⟩ := h
    refine ⟨_, (pss_one (ps_if (pt_not (pt_val (pe_calm (pe_cal c_enter_form hr (pa_cons (pv 0) pa_nil)) T.cl m_has hr (pa_cons (pv 1) pa_nil)))) (pss_one ps_never) pss_nil)), ?_⟩
    refine ⟨_, rfl, p, n, rfl, hn, fun fp H1 s1 hf => ?_⟩
    obtain ⟨dx, ho⟩ := hf.ob
    refine ⟨fp, dx, _, rfl, ho, fl_no (by decide +kernel), _, rfl, fp, _, _, _, _, .int x, _, rfl, hf, .inl ⟨x, rfl, rfl⟩, _, rfl, ?_⟩
    rw [hi]
    exact iteF (q _ s1)
theorem sc_state_behind : FnScope ["net", "numbers", "hold"] ["net", "numbers"] (defScope s_state_behind) := ⟨rfl, rfl, rfl, by decide +kernel, rfl, by decide +kernel, by decide +kernel⟩
theorem ok_state_behind {f : Addr} {fd : FuncData} {C CN : Addr} (TN : NTxt K mg CN) (F : Fun K "state_behind" "state_behind" s_state_behind f fd) (z : Zs mg) (n_holds : CalM P w K mg base 1 CN "holds" ["self"] (spHoldsM C CN)) : FnOk P w K mg base CX0 2 f fd ["net", "numbers"] (spBehind C CN) := by
  refine F.ok sc_state_behind (fun vs H Q E h => ?_) (fun cdv A outer s H vs Q E hr h => ?_)
  · obtain ⟨p, na, n, nums, rfl, _⟩ := h
    rfl
  · obtain ⟨p, na, n, nums, rfl, hn, hna, ln, q⟩ := h
    refine ⟨_, (pss_one (ps_ret (pe_callTy call_tuple_of (by rfl) z.tuple (by decide +kernel) (pa_cons (pe_lc (own := [("hold", 2)]) (g := gName 2) (tt := tYes) (te := (tOp (rIxL K) (tVar 1) (tOp (rIxT K) (tVar 2) (tC (.int 2))))) (by rfl) sc_state_behind.nd (pi_list (pe_calm0 (pv 0) TN.cl n_holds hr)) (blkOk_by (own := [("hold", 2)]) (N := ["net", "numbers", "hold"]) (sc := defScope s_state_behind) (by decide +kernel)) (fun _ _ _ _ _ => by exact (pg_name (i := 2) sc_state_behind.nd rfl (.inl rfl))) (fun _ _ _ _ _ => by exact pts_nil) (fun _ _ _ _ _ => by exact (pe_ix ix_list (pv 1) (pe_ix ix_tup (pv 2) pe_int (fun _ _ => rfl)) (fun _ _ => rfl)))) pa_nil)))), ?_⟩
    obtain ⟨ok, dx, fl, rl, hl, pl, fv, rv, hv, b⟩ := id hn
    have h6 := ok.h2
    refine ⟨_, rfl, p, dx, _, rfl, b.ob, nl_no (by decide +kernel), p, n, rfl, hn, fun hl2 hv2 H1 hf1 s1 h_hl2 hhh => ?_⟩
    have lh := hhh.len
    rw [List.length_map] at lh
    refine ⟨hl2, rfl, ⟨_, SqL.of h_hl2⟩, fun D hD => ?_⟩
    refine lc_it (walk_list (K := K) (a := hl2) (xs := hv2)) (fun i G => Same H1 G ∧ G D = some (.lst (((n.holds.take i).map fun h => nums.getD h.l 0).map V.int))) ⟨same_new hD, upd_same⟩ (fun i G _ hP => SqL.of (hP.1 _ _ h_hl2)) (fun i x G G' hi hP hY => ?_) (fun G hP => ?_)
    · obtain ⟨s3, hd⟩ := hP
      obtain ⟨rfl, e1⟩ := hY
      obtain ⟨hp, xs, rfl, ex, hhp⟩ := hhh.get e1
      rw [List.getElem?_map] at ex
      obtain ⟨hh, eh, rfl⟩ := Option.map_eq_some_iff.mp ex
      obtain ⟨a, ea⟩ := (ok.ho hh (List.mem_of_getElem? eh)).2.2
      have al := (List.getElem?_eq_some_iff.mp ea).1
      refine ⟨rfl, _, rfl, _, rfl, hp, _, 2, .int hh.l, rfl, rfl, SqT.of (s3 _ _ hhp), a2, na, _, _, _, rfl, rfl, SqL.of ((s1.trans s3) _ _ hna), ints_at (by omega), _, hd, ?_, fun c o e => ?_, ?_⟩
      · rw [List.length_map, List.length_map, List.length_take]
        exact sl_lt (by omega)
      · rw [upd_ne (ne_of_none e hD)]
        exact s3 _ _ e
      · rw [upd_same, List.take_add_one, eh, List.map_append, List.map_append]
        rfl
    · obtain ⟨s3, hd⟩ := hP
      rw [lh, List.take_length] at hd
      refine ⟨D, _, rfl, .inl ⟨SqL.of hd, fun t ht => ?_⟩⟩
      generalize hG : upd _ t _ = G2
      obtain ⟨s4, h_t⟩ := upd_gen hG ht
      exact q t _ ((s1.trans s3).free ht) ((s1.trans s3).trans s4) h_t
theorem sc_turn_of : FnScope ["net", "state", "word", "numbers"] ["net", "state", "word"] (defScope s_turn_of) := ⟨rfl, rfl, rfl, by decide +kernel, rfl, by decide +kernel, by decide +kernel⟩
theorem ok_turn_of {f : Addr} {fd : FuncData} {C CN fR : Addr} (gR : mg "number_of_row" = some (.ref fR)) (F : Fun K "turn_of" "turn_of" s_turn_of f fd) (c_swept : Cal P w K mg base 7 "swept" ["net", "heard", "held", "rule"] (spSwept C CN fR)) (c_state_behind : Cal P w K mg base 2 "state_behind" ["net", "numbers"] (spBehind C CN)) : FnOk P w K mg base CX0 8 f fd ["net", "state", "word"] (spTurnOf C CN) := by
  refine F.ok sc_turn_of (fun vs H Q E h => ?_) (fun cdv A outer s H vs Q E hr h => ?_)
  · obtain ⟨p, sa, n, x, st, rfl, _⟩ := h
    rfl
  · obtain ⟨p, sa, n, x, st, rfl, hn, hsa, hl, ko, q⟩ := h
    refine ⟨_, (pss_cons (ps_set (i := 3) sc_turn_of.nd rfl (.inl rfl) (pe_cal c_swept hr (pa_cons (pv 0) (pa_cons (pv 2) (pa_cons (pv 1) (pa_cons (pe_glob (v := .ref fR) (by rfl) gR rfl) pa_nil))))))
      (pss_one (ps_ret (pe_tup (pa_cons (pv 3) (pa_cons (pe_cal c_state_behind hr (pa_cons (pv 0) (pa_cons (pv 3) pa_nil))) pa_nil)))))), ?_⟩
    refine ⟨_, rfl, _, rfl, _, rfl, p, sa, n, x, st, rfl, hn, hsa, hl, ko, fun l H1 hl0 s1 h_l => ?_⟩
    refine ⟨_, rfl, _, rfl, _, rfl, p, l, n, _, rfl, hn.same s1, h_l, nums_len n x st, fun s H2 hs s2 h_s => ⟨(by show 2 ≤ sizeLine; decide), fun t ht => ?_⟩⟩
    generalize hG : upd _ t _ = G2
    obtain ⟨s3, h_t⟩ := upd_gen hG ht
    exact q t l s _ ((s1.trans s2).trans s3) ((s1.trans s2).free ht) hl0 (s1.free hs) h_t (s3 _ _ (s2 _ _ h_l)) (s3 _ _ h_s)
theorem sc_turned : FnScope ["net", "state", "word"] ["net", "state", "word"] (defScope s_turned) := ⟨rfl, rfl, rfl, by decide +kernel, rfl, by decide +kernel, by decide +kernel⟩
theorem ok_turned {f : Addr} {fd : FuncData} {C CN : Addr} (F : Fun K "turned" "turned" s_turned f fd) (c_check_state : Cal P w K mg base 4 "check_state" ["net", "state"] (spCkState C CN)) (c_check_word : Cal P w K mg base 3 "check_word" ["net", "word"] (spCkWord C CN)) (c_turn_of : Cal P w K mg base 8 "turn_of" ["net", "state", "word"] (spTurnOf C CN)) : FnOk P w K mg base CX0 9 f fd ["net", "state", "word"] (spTurned C CN) := by
  refine F.ok sc_turned (fun vs H Q E h => ?_) (fun cdv A outer s H vs Q E hr h => ?_)
  · obtain ⟨p, sa, n, x, st, rfl, _⟩ := h
    rfl
  · obtain ⟨p, sa, n, x, st, rfl, hn, hsa, so, hi, ko, q⟩ := h
    refine ⟨_, (pss_cons (ps_expr (pe_cal c_check_state hr (pa_cons (pv 0) (pa_cons (pv 1) pa_nil))))
      (pss_cons (ps_expr (pe_cal c_check_word hr (pa_cons (pv 0) (pa_cons (pv 2) pa_nil))))
      (pss_one (ps_ret (pe_cal c_turn_of hr (pa_cons (pv 0) (pa_cons (pv 1) (pa_cons (pv 2) pa_nil)))))))), ?_⟩
    refine ⟨_, rfl, _, rfl, p, sa, n, st, rfl, hn, hsa, so, fun H1 s1 => ?_⟩
    refine ⟨_, rfl, _, rfl, p, n, x, rfl, hn.same s1, hi, fun H2 s2 => ?_⟩
    have S := s1.trans s2
    exact ⟨_, rfl, _, rfl, _, rfl, p, sa, n, x, st, rfl, hn.same S, S _ _ hsa, so.len, ko, fun t l s H' s3 ht hl hs h_t h_l h_s => q t l s H' (S.trans s3) (S.free ht) (S.free hl) (S.free hs) h_t h_l h_s⟩
end
end E1

namespace E1
open PySem PySem.Spec PyProof.Rows L2

structure IsN (K : PySem.W.Frag) (mg : Str → Option Value) (CN : Addr) : Prop where
  gC : mg "Net" = some (.ref CN)
  ha : PySem.W.findIn K (.ref CN) "__class__" = some (some (.builtin "object.__class__"))
  hn : PySem.W.specialIn K (.builtin "object.__class__") "__get__" = some (some (.builtin "getset_descriptor.__get__"))
  ht : PySem.W.takesIn K (.builtin "object.__class__") = some true
  hm : PySem.W.mroIn K CN (.type "object") = some true
  kC : PySem.W.kitOne K (.ref CN) (.ref CN) = some true
structure OwnQ (K : PySem.W.Frag) (C : Addr) (f : Addr) (fd : FuncData) : Prop where
  find : PySem.W.findIn K (.ref C) "__eq__" = some (some (.ref f))
  fn : PySem.W.isFn K (.ref f) = true
  b : Binds K fd ["self", "other"] []
/-- two forms alike -/
def RF (C : Addr) : Addr → Addr → Hp → Prop := fun a b H => ∃ f : FormP, FAt C H a f ∧ FAt C H b f
def RN (C CN : Addr) : Addr → Addr → Hp → Prop := fun a b H => ∃ n : NetP, NetAt C CN H a n ∧ NetAt C CN H b n
theorem RF.mon {C : Addr} : ∀ a b H H', Ext H H' → RF C a b H → RF C a b H' := fun a b H H' e r => by
  obtain ⟨f, x, y⟩ := r
  exact ⟨f, FormAt.same x e, FormAt.same y e⟩
theorem RN.mon {C CN : Addr} : ∀ a b H H', Ext H H' → RN C CN a b H → RN C CN a b H' := fun a b H H' e r => by
  obtain ⟨n, x, y⟩ := r
  exact ⟨n, x.same e, y.same e⟩
theorem flat_same {x : V} (h : flatV x = true) (e : eqV x x = true) : DFlat x x (fun _ => none) := ⟨h, h, e⟩
theorem FsAt.prs {C : Addr} {H : Hp} {fs : List FormP} {vs ws : List V} (h : FsAt C H vs fs) (g : FsAt C H ws fs) : Prs (DIns C (RF C)) vs ws H := by
  refine ⟨h.len.trans g.len.symm, fun i x y e1 e2 => ?_⟩
  obtain ⟨p, f, rfl, ef, hp⟩ := h.get e1
  obtain ⟨q, f2, rfl, ef2, hq⟩ := g.get e2
  rw [ef] at ef2
  cases ef2
  obtain ⟨d1, o1⟩ := hp.ob
  obtain ⟨d2, o2⟩ := hq.ob
  exact ⟨p, q, d1, d2, _, _, rfl, rfl, o1, o2, f, hp, hq⟩
theorem TsAt.prs {K : PySem.W.Frag} {H : Hp} {xss : List (List V)} {vs ws : List V} (h : TsAt H vs xss) (g : TsAt H ws xss) (fl : ∀ xs ∈ xss, ∀ x ∈ xs, flatV x = true ∧ eqV x x = true) : Prs (DTup K DFlat) vs ws H := by
  refine ⟨h.len.trans g.len.symm, fun i x y e1 e2 => ?_⟩
  obtain ⟨p, xs, rfl, ef, hp⟩ := h.get e1
  obtain ⟨q, xs2, rfl, ef2, hq⟩ := g.get e2
  rw [ef] at ef2
  cases ef2
  refine ⟨p, q, xs, xs, rfl, rfl, SqT.of hp, SqT.of hq, rfl, fun j u v a b => ?_⟩
  rw [a] at b
  cases b
  obtain ⟨f1, f2⟩ := fl xs (List.mem_of_getElem? ef) u (List.mem_of_getElem? a)
  exact ⟨f1, f1, f2⟩
theorem Row.flat (r : Row) : ∀ x ∈ r.vs, flatV x = true ∧ eqV x x = true := by
  have i : ∀ k : Int, eqV (.int k) (.int k) = true := fun k => by
    show (k == k) = true
    exact beq_self_eq_true k
  intro x hx
  cases r <;> simp only [Row.vs, List.mem_cons, List.not_mem_nil, or_false] at hx
  · subst hx; exact ⟨rfl, by decide +kernel⟩
  · rcases hx with rfl | rfl
    · exact ⟨rfl, by decide +kernel⟩
    · exact ⟨rfl, i _⟩
  · rcases hx with rfl | rfl | rfl | rfl
    · exact ⟨rfl, by decide +kernel⟩
    all_goals exact ⟨rfl, i _⟩
  all_goals
    rcases hx with rfl | rfl | rfl
    · exact ⟨rfl, by decide +kernel⟩
    all_goals exact ⟨rfl, i _⟩
theorem Hold.flat (h : Hold) : ∀ x ∈ h.vs, flatV x = true ∧ eqV x x = true := by
  intro x hx
  simp only [Hold.vs, List.mem_cons, List.not_mem_nil, or_false] at hx
  rcases hx with rfl | rfl | rfl
  all_goals exact ⟨rfl, beq_self_eq_true _⟩
theorem rows_flat (rs : List Row) : ∀ xs ∈ rs.map Row.vs, ∀ x ∈ xs, flatV x = true ∧ eqV x x = true := fun xs h => by
  obtain ⟨r, _, rfl⟩ := List.mem_map.mp h
  exact r.flat
theorem holds_flat (hs : List Hold) : ∀ xs ∈ hs.map Hold.vs, ∀ x ∈ xs, flatV x = true ∧ eqV x x = true := fun xs h => by
  obtain ⟨r, _, rfl⟩ := List.mem_map.mp h
  exact r.flat
section
variable {P : Program} {w : World} {K : PySem.W.Frag} {mg : Str → Option Value} {base : Heap}
theorem sc_Form___eq__ : FnScope ["self", "other"] ["self", "other"] (defScope s_Form___eq__) := ⟨rfl, rfl, rfl, by decide +kernel, rfl, by decide +kernel, by decide +kernel⟩
theorem ok_Form___eq__ {f : Addr} {fd : FuncData} {k : Nat} {C : Addr} (T : FTxt K mg C) (IC : IsC K mg C) (F : Fun K "__eq__" "Form.__eq__" s_Form___eq__ f fd) (z : Zs mg) : FnOk P w K mg base CX0 (k + 1) f fd ["self", "other"] (spEq (RF C)) := by
  refine F.ok sc_Form___eq__ (fun vs H Q E h => ?_) (fun cdv A outer s H vs Q E hr h => ?_)
  · obtain ⟨a, c, rfl, _⟩ := h
    rfl
  · obtain ⟨a, c, rfl, ⟨ff, hf, hf2⟩, q⟩ := h
    obtain ⟨⟨dx, ho⟩, hw, h0, h1⟩ := id hf
    obtain ⟨⟨dx2, ho2⟩, _, _, _⟩ := id hf2
    refine ⟨_, (pss_one (ps_ret (pe_and (pe_callB call_isi (by rfl) z.isinstance (by decide +kernel) (pa_cons (pv 1) (pa_cons (pe_glob (v := .ref C) (by rfl) IC.gC rfl) pa_nil))) (pe_and (pe_cmpR op_eq (pe_fld (pv 0) rfl) (pe_fld (pv 1) rfl) (nomark _)) (pe_and (pe_cmpR op_eq (pe_fld (pv 0) rfl) (pe_fld (pv 1) rfl) (nomark _)) (pe_and (pe_cmpR op_eq (pe_fld (pv 0) rfl) (pe_fld (pv 1) rfl) (nomark _)) (pe_one (pe_cmpR op_eq (pe_fld (pv 0) rfl) (pe_fld (pv 1) rfl) (nomark _))))))))), ?_⟩
    refine ⟨_, rfl, _, .ref C, .ref C, .ref C, true, rfl, .own C, .base (.ins ho2 T.cl IC.ha IC.hn IC.ht IC.hm), IC.kC, _, rfl, iteT ⟨_, rfl, ?_⟩⟩
    exact ⟨a, C, dx, _, _, rfl, ho, T.cl, T.nW, fl_w, _, rfl, c, C, dx2, _, _, rfl, ho2, T.cl, T.nW, fl_w, (by cases ff.w <;> rfl), _, rfl, iteC (d := true) (decide_eq_true rfl) (iteT ⟨_, rfl, a, C, dx, _, _, rfl, ho, T.cl, T.nP, fl_p, _, rfl, c, C, dx2, _, _, rfl, ho2, T.cl, T.nP, fl_p, rfl, _, rfl, iteC (d := true) (decide_eq_true rfl) (iteT ⟨_, rfl, a, C, dx, _, _, rfl, ho, T.cl, T.nM, fl_m, _, rfl, c, C, dx2, _, _, rfl, ho2, T.cl, T.nM, fl_m, rfl, _, rfl, iteC (d := true) (decide_eq_true rfl) (iteT ⟨_, rfl, a, C, dx, _, _, rfl, ho, T.cl, T.nE, fl_e, _, rfl, c, C, dx2, _, _, rfl, ho2, T.cl, T.nE, fl_e, rfl, qt rfl (q _ Ext.rfl')⟩)⟩)⟩)⟩
theorem sc_Net___eq__ : FnScope ["self", "other"] ["self", "other"] (defScope s_Net___eq__) := ⟨rfl, rfl, rfl, by decide +kernel, rfl, by decide +kernel, by decide +kernel⟩
theorem ok_Net___eq__ {f : Addr} {fd : FuncData} {C CN : Addr} (TN : NTxt K mg CN) (IN : IsN K mg CN) {fF : Addr} {fdF : FuncData} (okF : FnOk P w K mg base CX0 1 fF fdF ["self", "other"] (spEq (RF C))) (OQ : OwnQ K C fF fdF) (F : Fun K "__eq__" "Net.__eq__" s_Net___eq__ f fd) (z : Zs mg) : FnOk P w K mg base CX0 4 f fd ["self", "other"] (spEq (RN C CN)) := by
  refine F.ok sc_Net___eq__ (fun vs H Q E h => ?_) (fun cdv A outer s H vs Q E hr h => ?_)
  · obtain ⟨a, c, rfl, _⟩ := h
    rfl
  · obtain ⟨a, c, rfl, ⟨n, ⟨ok, dx, fl, rl, hl, pl, fv, rv, hv, b1⟩, ⟨_, dx2, fl2, rl2, hl2, pl2, fv2, rv2, hv2, b2⟩⟩, q⟩ := h
    refine ⟨_, (pss_one (ps_ret (pe_and (pe_callB call_isi (by rfl) z.isinstance (by decide +kernel) (pa_cons (pv 1) (pa_cons (pe_glob (v := .ref CN) (by rfl) IN.gC rfl) pa_nil))) (pe_and (pe_cmpR (op_eqG (rcG_list (mon_ins RF.mon) (eqG_ins okF OQ.find OQ.fn OQ.b pass0)) (hr.mono (by decide))) (pe_fld (pv 0) rfl) (pe_fld (pv 1) rfl) (nomark _)) (pe_and (pe_cmpR op_eq (pe_fld (pv 0) rfl) (pe_fld (pv 1) rfl) (nomark _)) (pe_and (pe_cmpR (op_eqG (rcG_list (mon_tup mon_flat) (eqG_tup mon_flat eqG_flat)) (hr.mono (by decide))) (pe_fld (pv 0) rfl) (pe_fld (pv 1) rfl) (nomark _)) (pe_and (pe_cmpR (op_eqG (rcG_list (mon_tup mon_flat) (eqG_tup mon_flat eqG_flat)) (hr.mono (by decide))) (pe_fld (pv 0) rfl) (pe_fld (pv 1) rfl) (nomark _)) (pe_one (pe_cmpR op_eq (pe_fld (pv 0) rfl) (pe_fld (pv 1) rfl) (nomark _)))))))))), ?_⟩
    refine ⟨_, rfl, _, .ref CN, .ref CN, .ref CN, true, rfl, .own CN, .base (.ins b2.ob TN.cl IN.ha IN.hn IN.ht IN.hm), IN.kC, _, rfl, iteT ⟨_, rfl, ?_⟩⟩
    refine ⟨a, CN, dx, _, _, rfl, b1.ob, TN.cl, TN.n_form_list, nl_f, _, rfl, c, CN, dx2, _, _, rfl, b2.ob, TN.cl, TN.n_form_list, nl_f, ⟨fl, fl2, fv, fv2, rfl, rfl, b1.fa, b2.fa, b1.fs.prs b2.fs⟩, fun H1 e1 => ?_⟩
    replace b1 := b1.same e1
    replace b2 := b2.same e1
    refine ⟨_, rfl, iteT ⟨_, rfl, a, CN, dx, _, _, rfl, (b1.ob), TN.cl, TN.n_enters_at, nl_e, _, rfl, c, CN, dx2, _, _, rfl, (b2.ob), TN.cl, TN.n_enters_at, nl_e, rfl, _, rfl, iteC (d := true) (decide_eq_true rfl) (iteT ?_)⟩⟩
    refine ⟨_, rfl, a, CN, dx, _, _, rfl, (b1.ob), TN.cl, TN.n_row_list, nl_r, _, rfl, c, CN, dx2, _, _, rfl, (b2.ob), TN.cl, TN.n_row_list, nl_r, ⟨rl, rl2, rv, rv2, rfl, rfl, b1.ra, b2.ra, b1.rs.prs b2.rs (rows_flat _)⟩, fun H2 e2 => ?_⟩
    replace b1 := b1.same e2
    replace b2 := b2.same e2
    refine ⟨_, rfl, iteT ⟨_, rfl, a, CN, dx, _, _, rfl, (b1.ob), TN.cl, TN.n_hold_list, nl_h, _, rfl, c, CN, dx2, _, _, rfl, (b2.ob), TN.cl, TN.n_hold_list, nl_h, ⟨hl, hl2, hv, hv2, rfl, rfl, b1.ha, b2.ha, b1.hs.prs b2.hs (holds_flat _)⟩, fun H3 e3 => ?_⟩⟩
    replace b1 := b1.same e3
    replace b2 := b2.same e3
    exact ⟨_, rfl, iteT ⟨_, rfl, a, CN, dx, _, _, rfl, (b1.ob), TN.cl, TN.n_out_at, nl_o, _, rfl, c, CN, dx2, _, _, rfl, (b2.ob), TN.cl, TN.n_out_at, nl_o, rfl, qt rfl (q _ ((Ext.trans e1 e2).trans e3))⟩⟩
end
end E1

namespace E1
open PySem PySem.Spec PyProof.Rows L2

theorem WellAt.ne {H : Hp} {a p : Addr} {c : Int} (h : WellAt H a c) (hp : H p = none) : p ≠ a := fun e => by
  obtain ⟨x, y, z, ha, _⟩ := h
  rw [← e, hp] at ha
  cases ha
theorem WellAt.lst {H : Hp} {a : Addr} {c : Int} (h : WellAt H a c) : ∃ xs, H a = some (.lst xs) := by
  obtain ⟨x, y, z, ha, _⟩ := h
  exact ⟨_, ha⟩
theorem WellAt.nt {H : Hp} {a p : Addr} {c : Int} {xs : List V} (h : WellAt H a c) (hp : H p = some (.tup xs)) : p ≠ a := fun e => by
  obtain ⟨x, y, z, ha, _⟩ := h
  rw [← e, hp] at ha
  cases ha
theorem sevenI {r : Int} (h0 : 0 ≤ r) (h1 : r < 7) : ∃ m : Mn, atI [V.str "down", V.str "up", V.str "in", V.str "out", V.str "half", V.str "even", V.str "far"] r = some (.str m.str) := by
  rcases (by omega : r = 0 ∨ r = 1 ∨ r = 2 ∨ r = 3 ∨ r = 4 ∨ r = 5 ∨ r = 6) with rfl | rfl | rfl | rfl | rfl | rfl | rfl
  · exact ⟨.down, rfl⟩
  · exact ⟨.up, rfl⟩
  · exact ⟨.inn, rfl⟩
  · exact ⟨.out, rfl⟩
  · exact ⟨.half, rfl⟩
  · exact ⟨.even, rfl⟩
  · exact ⟨.far, rfl⟩
theorem endI {r : Int} (h0 : 0 ≤ r) (h1 : r < 2) : ∃ st, atI [V.str "wrap", V.str "stop"] r = some (.str (endS st)) := by
  rcases (by omega : r = 0 ∨ r = 1) with rfl | rfl
  · exact ⟨false, rfl⟩
  · exact ⟨true, rfl⟩
theorem twoI {x y : V} {r : Int} (h0 : 0 ≤ r) (h1 : r < 2) : ∃ v, atI [x, y] r = some v ∧ (v = x ∨ v = y) := by
  rcases (by omega : r = 0 ∨ r = 1) with rfl | rfl
  · exact ⟨x, rfl, .inl rfl⟩
  · exact ⟨y, rfl, .inr rfl⟩
theorem threeI {x y z : V} {r : Int} (h0 : 0 ≤ r) (h1 : r < 3) : ∃ v, atI [x, y, z] r = some v ∧ (v = x ∨ v = y ∨ v = z) := by
  rcases (by omega : r = 0 ∨ r = 1 ∨ r = 2) with rfl | rfl | rfl
  · exact ⟨x, rfl, .inl rfl⟩
  · exact ⟨y, rfl, .inr (.inl rfl)⟩
  · exact ⟨z, rfl, .inr (.inr rfl)⟩
def spLForm : Sp := fun vs H Q _ => ∃ (a : Addr) (fr : Bool) (R c : Int), vs = [.ref a, .bl fr, .int R] ∧ 0 ≤ R ∧ R ≤ 60 ∧ WellAt H a c ∧ 0 ≤ c ∧ c ≤ 10000 ∧ ∀ (f : FormP) (p : Addr) (H' : Hp), f.Ok → (fr = false → f.w ≠ none) → -R - 2 ≤ f.pt → f.pt ≤ R + 2 → SameBut a H H' → WellAt H' a (c + 7) → p ≠ a → H p = none → H' p = some (.tup f.vs) → Q (.ref p) H'
def spLWord : Sp := fun vs H Q _ => ∃ (a p : Addr) (f : FormP) (c : Int), vs = [.ref a, .ref p] ∧ H p = some (.tup f.vs) ∧ f.Ok ∧ WellAt H a c ∧ 0 ≤ c ∧ c ≤ 10000 ∧ ∀ (s : Int) (H' : Hp), inR f.w s = true → s.natAbs < 2 ^ 70 → SameBut a H H' → WellAt H' a (c + 5) → Q (.int s) H'
/-- by how much a row moves the point -/
def Row.by_ : Row → Int → Prop
  | .times _ m _, R => (m : Int) ≤ R
  | .move m _, R => -R ≤ m ∧ m ≤ R
  | _, _ => True
def spLRow : Sp := fun vs H Q _ => ∃ (a : Addr) (fc i hc : Nat) (fr : Bool) (R c : Int), vs = [.ref a, .int fc, .int i, .bl fr, .int R, .int hc] ∧ 1 ≤ fc ∧ fc ≤ 12 ∧ 1 ≤ i ∧ i ≤ 100 ∧ 0 ≤ R ∧ R ≤ 60 ∧ hc ≤ 100 ∧ WellAt H a c ∧ 0 ≤ c ∧ c ≤ 10000 ∧
  ∀ (r : Row) (p : Addr) (H' : Hp), RowOk hc fc i r → r.by_ R → (fr = true → r.small) → SameBut a H H' → WellAt H' a (c + 10) → p ≠ a → H p = none → H' p = some (.tup r.vs) → Q (.ref p) H'
theorem same_free {a p : Addr} {H H' : Hp} {xs : List V} (s : SameBut a H H') (ha : H a = some (.lst xs)) (h : H' p = none) (n : p ≠ a) : H p = none := by
  cases e : H p with
  | none => rfl
  | some o =>
    rw [s _ _ n e] at h
    cases h
section
variable {P : Program} {w : World} {K : PySem.W.Frag} {mg : Str → Option Value} {base : Heap}
theorem sc__law_form : FnScope ["_law_well_here", "_law_free", "_law_reach", "_law_width", "_law_manner"] ["_law_well_here", "_law_free", "_law_reach"] (defScope s__law_form) := ⟨rfl, rfl, rfl, by decide +kernel, rfl, by decide +kernel, by decide +kernel⟩
theorem ok__law_form {f : Addr} {fd : FuncData} (F : Fun K "_law_form" "_law_form" s__law_form f fd) (c__law_draw : Cal P w K mg base 1 "_law_draw" ["_law_well_here", "_law_many"] spDraw) : FnOk P w K mg base CX0 2 f fd ["_law_well_here", "_law_free", "_law_reach"] spLForm := by
  refine F.ok sc__law_form (fun vs H Q E h => ?_) (fun cdv A outer s H vs Q E hr h => ?_)
  · obtain ⟨a, fr, R, c, rfl, _⟩ := h
    rfl
  · obtain ⟨a, fr, R, c, rfl, R0, R1, hw, c0, c1, q⟩ := h
    refine ⟨_, (pss_cons (ps_set (i := 3) sc__law_form.nd rfl (.inl rfl) (pe_ix ix_list (pe_lst (pa_cons (pe_op op_add pe_int (pe_cal c__law_draw hr (pa_cons (pv 0) (pa_cons pe_int pa_nil)))) (pa_cons (pe_op op_add pe_int (pe_cal c__law_draw hr (pa_cons (pv 0) (pa_cons pe_int pa_nil)))) (pa_cons pe_int pa_nil)))) (pe_cal c__law_draw hr (pa_cons (pv 0) (pa_cons pe_int pa_nil))) (fun _ _ => rfl)))
      (C8.pss_cut (ps_if (PW.pt (pw_and (pt_val (pv 1)) (pw_and1 (pt_cmpR op_eq (pe_cal c__law_draw hr (pa_cons (pv 0) (pa_cons pe_int pa_nil))) pe_int (nomark _))))) (pss_one (ps_set (i := 3) sc__law_form.nd rfl (.inl rfl) pe_non)) pss_nil)
      (pss_cons (ps_set (i := 4) sc__law_form.nd rfl (.inl rfl) (pe_ix ix_list (pe_lst (pa_cons pe_str (pa_cons pe_str (pa_cons pe_str (pa_cons pe_str (pa_cons pe_str (pa_cons pe_str (pa_cons pe_str pa_nil)))))))) (pe_cal c__law_draw hr (pa_cons (pv 0) (pa_cons pe_int pa_nil))) (fun _ _ => rfl)))
      (pss_one (ps_ret (pe_tup (pa_cons (pv 3) (pa_cons (pe_op op_sub (pe_op op_sub (pe_cal c__law_draw hr (pa_cons (pv 0) (pa_cons (pe_op op_add (pe_op op_mul pe_int (pv 2)) pe_int) pa_nil))) (pv 2)) pe_int) (pa_cons (pv 4) (pa_cons (pe_ix ix_list (pe_lst (pa_cons pe_str (pa_cons pe_str pa_nil))) (pe_cal c__law_draw hr (pa_cons (pv 0) (pa_cons pe_int pa_nil))) (fun _ _ => rfl)) pa_nil)))))))))), ?_⟩
    refine ⟨_, rfl, a, c, 4, rfl, hw, by omega, by decide, by decide +kernel, fun r1 H1 r10 r11 d1 e1 w1 => ⟨_, _, rfl, rfl, _, rfl, a, c + 1, 63, rfl, w1, by omega, by decide, by decide +kernel, fun r2 H2 r20 r21 d2 e2 w2 => ⟨_, _, rfl, rfl, (by show 3 ≤ sizeLine; decide), fun l3 hl3 => ?_⟩⟩⟩
    have n3 := w2.ne hl3
    have q3 := same_new (o := .lst [V.int (2 + r1), V.int (2 + r2), V.int 64]) hl3
    refine ⟨_, rfl, a, c + 1 + 1, 3, rfl, (w2.same q3), by omega, by decide, by decide +kernel, fun r3 H3 r30 r31 d3 e3 w3 => ?_⟩
    obtain ⟨v3, i3, o3⟩ := threeI (x := V.int (2 + r1)) (y := V.int (2 + r2)) (z := V.int 64) r30 r31
    obtain ⟨y, rfl, y0, y1⟩ : ∃ y : Int, v3 = .int y ∧ 2 ≤ y ∧ y ≤ 64 := by
      rcases o3 with rfl | rfl | rfl
      · exact ⟨_, rfl, by omega, by omega⟩
      · exact ⟨_, rfl, by omega, by omega⟩
      · exact ⟨_, rfl, by omega, by omega⟩
    refine ⟨l3, _, r3, _, rfl, rfl, SqL.of (d3 _ _ n3 upd_same), i3, ?_⟩
    have D3 : SameBut a H H3 := d1.trans (d2.trans ((SameBut.of q3).trans d3))
    clear d1 d2 d3 e1 e2 e3 q3 i3 n3 w1 w2 o3
    refine ⟨fun σ G => ∃ w : Option Int, σ = [some (.ref a), some (.bl fr), some (.int R), some (wV w), none] ∧ WOk w ∧ (fr = false → w ≠ none) ∧ SameBut a H G ∧ WellAt G a (c + 4), ?_, fun σ H4 hM => ?_⟩
    · have ok : WOk (some y) := fun x z => by cases z; exact ⟨y0, y1⟩
      refine ⟨_, rfl, _, rfl, ?_⟩
      cases fr with
      | false => exact iteF ⟨some y, rfl, ok, (fun _ z => nomatch z), D3, w3.mono (by omega)⟩
      | true =>
        refine iteT ⟨_, rfl, a, c + 1 + 1 + 1, 2, rfl, w3, by omega, by decide, by decide +kernel, fun r4 H4 r40 r41 d4 e4 w4 => ⟨rfl, _, rfl, ite2 (fun _ => ?_) (fun _ => ?_)⟩⟩
        · exact ⟨none, rfl, (fun _ z => by cases z), (fun z => nomatch z), D3.trans d4, w4.mono (by omega)⟩
        · exact ⟨some y, rfl, ok, (fun _ z => nomatch z), D3.trans d4, w4.mono (by omega)⟩
    obtain ⟨w, rfl, hwo, hwn, D4, w4⟩ := hM
    clear D3 w3
    refine ⟨(by show 7 ≤ sizeLine; decide), fun l5 hl5 => ?_⟩
    have q5 := same_new (o := .lst [V.str "down", V.str "up", V.str "in", V.str "out", V.str "half", V.str "even", V.str "far"]) hl5
    have n5 := w4.ne hl5
    refine ⟨_, rfl, a, c + 4, 7, rfl, (w4.same q5), by omega, by decide, by decide +kernel, fun r6 H6 r60 r61 d6 e6 w6 => ?_⟩
    obtain ⟨m, hm⟩ := sevenI r60 r61
    refine ⟨l5, _, r6, _, rfl, rfl, SqL.of (d6 _ _ n5 upd_same), hm, ?_⟩
    have D6 : SameBut a H H6 := D4.trans ((SameBut.of q5).trans d6)
    refine ⟨_, rfl, _, rfl, _, rfl, _, _, rfl, rfl, .inl ⟨by decide, by decide⟩, _, _, rfl, rfl, a, c + 4 + 1, 2 * R + 5, rfl, w6, by omega, by omega, Nat.lt_of_le_of_lt (show _ ≤ 1000 by omega) (by decide +kernel), fun r7 H7 r70 r71 d7 e7 w7 => ⟨_, rfl, _, _, rfl, rfl, _, _, rfl, rfl, _, rfl, (by show 2 ≤ sizeLine; decide), fun l8 hl8 => ?_⟩⟩
    have q8 := same_new (o := .lst [V.str "wrap", V.str "stop"]) hl8
    have n8 := w7.ne hl8
    refine ⟨_, rfl, a, c + 4 + 1 + 1, 2, rfl, (w7.same q8), by omega, by decide, by decide +kernel, fun r9 H9 r90 r91 d9 e9 w9 => ?_⟩
    obtain ⟨st, hst⟩ := endI r90 r91
    refine ⟨l8, _, r9, _, rfl, rfl, SqL.of (d9 _ _ n8 upd_same), hst, (by show 4 ≤ sizeLine; decide), fun p hp => ?_⟩
    have D9 : SameBut a H H9 := D6.trans (d7.trans ((SameBut.of q8).trans d9))
    have np := w9.ne hp
    obtain ⟨xs, hxs⟩ := hw.lst
    refine q ⟨w, r7 - R - 2, m, st⟩ p _ ⟨hwo, by show -64 ≤ r7 - R - 2; omega, by show r7 - R - 2 ≤ 64; omega⟩ hwn (by show -R - 2 ≤ r7 - R - 2; omega) (by show r7 - R - 2 ≤ R + 2; omega) (D9.trans (.of (same_new hp))) ((w9.same (same_new hp)).mono (by omega)) np (same_free D9 hxs hp np) upd_same
theorem sc__law_word : FnScope ["_law_well_here", "_law_form_here", "_law_room"] ["_law_well_here", "_law_form_here"] (defScope s__law_word) := ⟨rfl, rfl, rfl, by decide +kernel, rfl, by decide +kernel, by decide +kernel⟩
theorem ok__law_word {f : Addr} {fd : FuncData} (F : Fun K "_law_word" "_law_word" s__law_word f fd) (c__law_draw : Cal P w K mg base 1 "_law_draw" ["_law_well_here", "_law_many"] spDraw) : FnOk P w K mg base CX0 2 f fd ["_law_well_here", "_law_form_here"] spLWord := by
  refine F.ok sc__law_word (fun vs H Q E h => ?_) (fun cdv A outer s H vs Q E hr h => ?_)
  · obtain ⟨a, p, f, c, rfl, _⟩ := h
    rfl
  · obtain ⟨a, p, f, c, rfl, hp, fo, hw, c0, c1, q⟩ := h
    refine ⟨_, (pss_cons (ps_if (pt_cmpR op_isN (pe_ix ix_tup (pv 1) pe_int (fun _ _ => rfl)) pe_non (nomark _)) (pss_one (ps_ret (pe_ix ix_list (pe_lst (pa_cons (pe_op op_sub (pe_cal c__law_draw hr (pa_cons (pv 0) (pa_cons pe_int pa_nil))) pe_int) (pa_cons (pe_op op_sub (pe_cal c__law_draw hr (pa_cons (pv 0) (pa_cons (pe_op op_pow pe_int pe_int) pa_nil))) (pe_op op_pow pe_int pe_int)) pa_nil))) (pe_cal c__law_draw hr (pa_cons (pv 0) (pa_cons pe_int pa_nil))) (fun _ _ => rfl)))) pss_nil)
      (pss_cons (ps_set (i := 2) sc__law_word.nd rfl (.inl rfl) (pe_op op_shlW pe_int (pe_op op_sub (pe_ix ix_tup (pv 1) pe_int (fun _ _ => rfl)) pe_int)))
      (pss_cons (ps_if (pt_cmpR op_eq (pe_cal c__law_draw hr (pa_cons (pv 0) (pa_cons pe_int pa_nil))) pe_int (nomark _)) (pss_one (ps_ret (pe_ix ix_list (pe_lst (pa_cons (pe_op op_sub pe_int (pv 2)) (pa_cons (pe_op op_sub (pv 2) pe_int) pa_nil))) (pe_cal c__law_draw hr (pa_cons (pv 0) (pa_cons pe_int pa_nil))) (fun _ _ => rfl)))) pss_nil)
      (pss_one (ps_ret (pe_op op_sub (pe_op op_mod (pe_op op_add (pe_op op_mulW (pe_cal c__law_draw hr (pa_cons (pv 0) (pa_cons (pe_op op_mul pe_int (pv 2)) pa_nil))) (pe_op op_add pe_int (pe_op op_mul pe_int (pe_cal c__law_draw hr (pa_cons (pv 0) (pa_cons (pe_op op_pow pe_int pe_int) pa_nil)))))) (pe_cal c__law_draw hr (pa_cons (pv 0) (pa_cons pe_int pa_nil)))) (pe_op op_mul pe_int (pv 2))) (pv 2))))))), ?_⟩
    obtain ⟨w, pt, m, st⟩ := f
    have wo := fo.wo
    have np := hw.nt hp
    refine ⟨_, rfl, p, _, 0, wV w, rfl, rfl, SqT.of hp, a0, rfl, _, rfl, ?_⟩
    cases w with
    | none =>
      refine iteT ⟨_, rfl, a, c, 19, rfl, hw, by omega, by decide, by decide +kernel, fun r1 H1 r10 r11 d1 e1 w1 => ⟨_, _, rfl, rfl, _, rfl, _, _, rfl, rfl, ⟨by decide, by decide, by decide⟩, a, c + 1, 10 ^ (12 : Int).toNat, rfl, w1, by omega, by decide, by decide +kernel, fun r2 H2 r20 r21 d2 e2 w2 => ⟨_, _, rfl, rfl, ⟨by decide, by decide, by decide⟩, _, _, rfl, rfl, (by show 2 ≤ sizeLine; decide), fun l hl => ?_⟩⟩⟩
      have n3 := w2.ne hl
      have q3 := same_new (o := .lst [V.int (r1 - 9), V.int (r2 - 10 ^ (11 : Int).toNat)]) hl
      refine ⟨_, rfl, a, c + 1 + 1, 2, rfl, (w2.same q3), by omega, by decide, by decide +kernel, fun r3 H3 r30 r31 d3 e3 w3 => ?_⟩
      obtain ⟨v, i3, o3⟩ := twoI (x := V.int (r1 - 9)) (y := V.int (r2 - 10 ^ (11 : Int).toNat)) r30 r31
      have b1 : ((10 : Int) ^ (12 : Int).toNat) = 1000000000000 := by decide
      have b2 : ((10 : Int) ^ (11 : Int).toNat) = 100000000000 := by decide
      obtain ⟨s, rfl, sb⟩ : ∃ s : Int, v = .int s ∧ s.natAbs < 2 ^ 70 := by
        rcases o3 with rfl | rfl
        · exact ⟨_, rfl, Nat.lt_of_le_of_lt (show _ ≤ 100 by omega) (by decide)⟩
        · refine ⟨_, rfl, Nat.lt_of_le_of_lt (show _ ≤ 2000000000000 by omega) (by decide)⟩
      exact ⟨l, _, r3, _, rfl, rfl, SqL.of (d3 _ _ n3 upd_same), i3, q s _ rfl sb (d1.trans (d2.trans ((SameBut.of q3).trans d3))) (w3.mono (by omega))⟩
    | some y =>
      obtain ⟨y0, y1⟩ := wo y rfl
      have rm : (1 : Int) * 2 ^ (y - 1).toNat = two (y - 1) := Int.one_mul _
      have r0 := two_pos (y - 1)
      have rb : (two (y - 1)).natAbs < 2 ^ 64 := by
        unfold two
        exact two_pow_lt (by omega)
      have fin : ∀ s : Int, lst y ≤ s → s ≤ grt y → inR (some y) s = true ∧ s.natAbs < 2 ^ 70 := fun s h0 h1 => by
        refine ⟨by show (decide (lst y ≤ s) && decide (s ≤ grt y)) = true; rw [decide_eq_true h0, decide_eq_true h1]; rfl, ?_⟩
        unfold lst grt at *
        have e : (2 : Nat) ^ 70 = 2 ^ 64 * 64 := by decide
        rw [e]
        generalize (2 : Nat) ^ 64 = N at *
        omega
      refine iteF ⟨_, rfl, p, _, 0, .int y, rfl, rfl, SqT.of hp, a0, _, _, rfl, rfl, _, _, rfl, rfl, ?_, ?_⟩
      · have e : y - 1 = (((y - 1).toNat : Nat) : Int) := by omega
        rw [e]
        exact shl_ok (n := 1) (by decide) (by omega)
      dsimp only
      rw [rm]
      have eg : grt y = two (y - 1) - 1 := rfl
      have el : lst y = -(two (y - 1)) := rfl
      refine ⟨_, rfl, a, c, 4, rfl, hw, by omega, by decide, by decide +kernel, fun r1 H1 r10 r11 d1 e1 w1 => ⟨rfl, _, rfl, ite2 (fun _ => ?_) (fun _ => ?_)⟩⟩
      · refine ⟨_, rfl, _, _, rfl, rfl, _, rfl, _, _, rfl, rfl, (by show 2 ≤ sizeLine; decide), fun l hl => ?_⟩
        have n3 := w1.ne hl
        have q3 := same_new (o := .lst [V.int (0 - two (y - 1)), V.int (two (y - 1) - 1)]) hl
        refine ⟨_, rfl, a, c + 1, 2, rfl, (w1.same q3), by omega, by decide, by decide +kernel, fun r3 H3 r30 r31 d3 e3 w3 => ?_⟩
        obtain ⟨v, i3, o3⟩ := twoI (x := V.int (0 - two (y - 1))) (y := V.int (two (y - 1) - 1)) r30 r31
        obtain ⟨s, rfl, s0, s1⟩ : ∃ s : Int, v = .int s ∧ lst y ≤ s ∧ s ≤ grt y := by
          rcases o3 with rfl | rfl
          · exact ⟨_, rfl, by omega, by omega⟩
          · exact ⟨_, rfl, by omega, by omega⟩
        obtain ⟨g1, g2⟩ := fin s s0 s1
        exact ⟨l, _, r3, _, rfl, rfl, SqL.of (d3 _ _ n3 upd_same), i3, q s _ g1 g2 (d1.trans ((SameBut.of q3).trans d3)) (w3.mono (by omega))⟩
      · have bb : (2 * two (y - 1)).natAbs < 2 ^ 66 := by
          have e : (2 : Nat) ^ 66 = 2 ^ 64 * 4 := by decide
          rw [e]
          generalize (2 : Nat) ^ 64 = N at *
          omega
        refine ⟨_, rfl, _, rfl, _, _, rfl, rfl, .inl ⟨by decide, by decide⟩, a, c + 1, 2 * two (y - 1), rfl, w1, by omega, by omega, up bb (by decide), fun r2 H2 r20 r21 d2 e2 w2 => ?_⟩
        refine ⟨_, rfl, _, _, rfl, rfl, ⟨by decide, by decide, by decide⟩, a, c + 1 + 1, 10 ^ (5 : Int).toNat, rfl, w2, by omega, by decide, by decide +kernel, fun r3 H3 r30 r31 d3 e3 w3 => ?_⟩
        have b5 : ((10 : Int) ^ (5 : Int).toNat) = 100000 := by decide
        have rb2 : r2.natAbs < 2 ^ 66 := by omega
        refine ⟨_, _, rfl, rfl, .inl ⟨by decide, by decide⟩, _, _, rfl, rfl, _, _, rfl, rfl, wide_mul rb2 (show (1 + 2 * r3).natAbs < 2 ^ 30 from Nat.lt_of_le_of_lt (show _ ≤ 1000000 by omega) (by decide)) (by decide) (by decide) (by decide), ?_⟩
        refine ⟨_, rfl, a, c + 1 + 1 + 1, 7, rfl, w3, by omega, by decide, by decide +kernel, fun r4 H4 r40 r41 d4 e4 w4 => ⟨_, _, rfl, rfl, _, rfl, _, _, rfl, rfl, .inl ⟨by decide, by decide⟩, _, _, rfl, rfl, (by show 0 < 2 * two (y - 1); omega), _, rfl, _, _, rfl, rfl, ?_⟩⟩
        have m0 := Int.emod_nonneg (r2 * (1 + 2 * r3) + r4) (show 2 * two (y - 1) ≠ 0 by omega)
        have m1 := Int.emod_lt_of_pos (r2 * (1 + 2 * r3) + r4) (show 0 < 2 * two (y - 1) by omega)
        obtain ⟨g1, g2⟩ := fin ((r2 * (1 + 2 * r3) + r4) % (2 * two (y - 1)) - two (y - 1)) (by omega) (by omega)
        exact q _ _ g1 g2 (d1.trans (d2.trans (d3.trans d4))) (w4.mono (by omega))
theorem sc__law_row : FnScope ["_law_well_here", "_law_count", "_law_at", "_law_free", "_law_reach", "_law_held", "_law_sort", "_law_here", "_law_there", "_law_factor"] ["_law_well_here", "_law_count", "_law_at", "_law_free", "_law_reach", "_law_held"] (defScope s__law_row) := ⟨rfl, rfl, rfl, by decide +kernel, rfl, by decide +kernel, by decide +kernel⟩
theorem ok__law_row {f : Addr} {fd : FuncData} (F : Fun K "_law_row" "_law_row" s__law_row f fd) (c__law_draw : Cal P w K mg base 1 "_law_draw" ["_law_well_here", "_law_many"] spDraw) : FnOk P w K mg base CX0 2 f fd ["_law_well_here", "_law_count", "_law_at", "_law_free", "_law_reach", "_law_held"] spLRow := by
  refine F.ok sc__law_row (fun vs H Q E h => ?_) (fun cdv A outer s H vs Q E hr h => ?_)
  · obtain ⟨a, fc, i, hc, fr, R, c, rfl, _⟩ := h
    rfl
  · obtain ⟨a, fc, i, hc, fr, R, c, rfl, fc0, fc1, i0, i1, R0, R1, hc1, hw, c0, c1, q⟩ := h
    refine ⟨_, (pss_cons (ps_set (i := 6) sc__law_row.nd rfl (.inl rfl) (pe_cal c__law_draw hr (pa_cons (pv 0) (pa_cons pe_int pa_nil))))
      (pss_cons (ps_set (i := 7) sc__law_row.nd rfl (.inl rfl) (pe_ix ix_list (pe_lst (pa_cons (pe_op op_sub (pv 2) pe_int) (pa_cons (pe_cal c__law_draw hr (pa_cons (pv 0) (pa_cons (pv 2) pa_nil))) pa_nil))) (pe_cal c__law_draw hr (pa_cons (pv 0) (pa_cons pe_int pa_nil))) (fun _ _ => rfl)))
      (pss_cons (ps_set (i := 8) sc__law_row.nd rfl (.inl rfl) (pe_cal c__law_draw hr (pa_cons (pv 0) (pa_cons (pv 2) pa_nil))))
      (pss_cons (ps_if (pt_cmpR op_eq (pv 6) pe_int (nomark _)) (pss_one (ps_ret (pe_tup (pa_cons pe_str (pa_cons (pv 7) (pa_cons (pv 8) pa_nil)))))) pss_nil)
      (pss_cons (ps_if (pt_cmpR op_eq (pv 6) pe_int (nomark _)) (pss_one (ps_ret (pe_tup (pa_cons pe_str (pa_cons (pv 7) (pa_cons (pv 8) pa_nil)))))) pss_nil)
      (pss_cons (ps_if (pt_cmpR op_eq (pv 6) pe_int (nomark _)) (pss_one (ps_ret (pe_tup (pa_cons pe_str (pa_cons (pe_op op_sub (pe_cal c__law_draw hr (pa_cons (pv 0) (pa_cons (pe_op op_add (pe_op op_mul pe_int (pv 4)) pe_int) pa_nil))) (pv 4)) (pa_cons (pv 7) pa_nil)))))) pss_nil)
      (pss_cons (ps_if (pt_cmpR op_eq (pv 6) pe_int (nomark _)) (pss_one (ps_ret (pe_tup (pa_cons pe_str (pa_cons (pe_cal c__law_draw hr (pa_cons (pv 0) (pa_cons (pv 1) pa_nil))) (pa_cons (pv 7) pa_nil)))))) pss_nil)
      (C8.pss_cut (ps_if (PW.pt (pw_and (pt_cmpR op_eq (pv 6) pe_int (nomark _)) (pw_and1 (pt_cmpR op_gt (pv 5) pe_int (nomark _))))) (pss_one (ps_ret (pe_tup (pa_cons pe_str (pa_cons (pe_cal c__law_draw hr (pa_cons (pv 0) (pa_cons (pv 5) pa_nil))) pa_nil))))) pss_nil)
      (pss_cons (ps_if (pt_cmpR op_eq (pv 6) pe_int (nomark _)) (pss_one (ps_ret (pe_tup (pa_cons pe_str pa_nil)))) pss_nil)
      (pss_cons (ps_set (i := 9) sc__law_row.nd rfl (.inl rfl) (pe_op op_sub (pe_cal c__law_draw hr (pa_cons (pv 0) (pa_cons pe_int pa_nil))) pe_int))
      (C8.pss_cut (ps_if (PW.pt (pw_and (pt_not (pt_val (pv 3))) (pw_and1 (pt_cmpR op_eq (pe_cal c__law_draw hr (pa_cons (pv 0) (pa_cons pe_int pa_nil))) pe_int (nomark _))))) (pss_one (ps_set (i := 9) sc__law_row.nd rfl (.inl rfl) (pe_op op_mulW (pe_op op_mod (pe_op op_add (pe_op op_mulW (pe_cal c__law_draw hr (pa_cons (pv 0) (pa_cons (pe_op op_pow pe_int pe_int) pa_nil))) (pe_op op_add pe_int (pe_op op_mul pe_int (pe_cal c__law_draw hr (pa_cons (pv 0) (pa_cons (pe_op op_pow pe_int pe_int) pa_nil)))))) pe_int) (pe_op op_pow pe_int pe_int)) (pe_op op_sub pe_int (pe_op op_mul pe_int (pe_op op_mod (pv 9) pe_int)))))) pss_nil)
      (pss_one (ps_ret (pe_tup (pa_cons pe_str (pa_cons (pv 9) (pa_cons (pe_cal c__law_draw hr (pa_cons (pv 0) (pa_cons (pe_op op_add (pv 4) pe_int) pa_nil))) (pa_cons (pv 7) pa_nil)))))))))))))))))), ?_⟩
    obtain ⟨wxs, hwx⟩ := hw.lst
    have fin : ∀ (r : Row) (G : Hp), SameBut a H G → WellAt G a (c + 9) → RowOk hc fc i r → r.by_ R → (fr = true → r.small) → ∀ p, G p = none → Q (.ref p) (upd G p (.tup r.vs)) := fun r G sb wl ok by_ sm p hp =>
      q r p _ ok by_ sm (sb.trans (.of (same_new hp))) ((wl.same (same_new hp)).mono (by omega)) (wl.ne hp) (same_free sb hwx hp (wl.ne hp)) upd_same
    refine ⟨_, rfl, a, c, 8, rfl, hw, by omega, by decide, by decide +kernel, fun r1 H1 r10 r11 d1 e1 w1 => ⟨_, rfl, _, _, rfl, rfl, _, rfl, _, rfl, a, c + 1, (i : Int), rfl, w1, by omega, by omega, Nat.lt_of_le_of_lt (show _ ≤ 1000 by omega) (by decide +kernel), fun r2 H2 r20 r21 d2 e2 w2 => ⟨(by show 2 ≤ sizeLine; decide), fun l3 hl3 => ?_⟩⟩⟩
    have n3 := w2.ne hl3
    have q3 := same_new (o := .lst [V.int ((i : Int) - 1), V.int r2]) hl3
    refine ⟨_, rfl, a, c + 1 + 1, 2, rfl, (w2.same q3), by omega, by decide, by decide +kernel, fun r3 H3 r30 r31 d3 e3 w3 => ?_⟩
    obtain ⟨v3, i3, o3⟩ := twoI (x := V.int ((i : Int) - 1)) (y := V.int r2) r30 r31
    obtain ⟨hn, rfl, hn1⟩ : ∃ n : Nat, v3 = .int (n : Int) ∧ n < i := by
      rcases o3 with rfl | rfl
      · exact ⟨i - 1, by congr 1; omega, by omega⟩
      · exact ⟨r2.toNat, by congr 1; omega, by omega⟩
    refine ⟨l3, _, r3, _, rfl, rfl, SqL.of (d3 _ _ n3 upd_same), i3, ?_⟩
    have D3 : SameBut a H H3 := d1.trans (d2.trans ((SameBut.of q3).trans d3))
    clear d1 d2 d3 e1 e2 e3 q3 i3 n3 w1 w2 o3
    refine ⟨_, rfl, _, rfl, a, c + 1 + 1 + 1, (i : Int), rfl, w3, by omega, by omega, Nat.lt_of_le_of_lt (show _ ≤ 1000 by omega) (by decide +kernel), fun r4 H4 r40 r41 d4 e4 w4 => ?_⟩
    obtain ⟨tn, rfl⟩ : ∃ n : Nat, r4 = (n : Int) := ⟨r4.toNat, by omega⟩
    have tn1 : tn < i := by omega
    have D4 := D3.trans d4
    have W4 : WellAt H4 a (c + 4) := w4.mono (by omega)
    clear D3 d4 w3 w4 e4 r40 r41
    refine ⟨_, rfl, rfl, _, rfl, ite2 (fun _ => ?_) (fun k0 => ?_)⟩
    · exact ⟨_, rfl, _, rfl, (by show 3 ≤ sizeLine; decide), fun p hp => fin (.plus hn tn) _ D4 (W4.mono (by omega)) ⟨hn1, tn1⟩ trivial (fun _ => trivial) p hp⟩
    refine ⟨_, rfl, rfl, _, rfl, ite2 (fun _ => ?_) (fun k1 => ?_)⟩
    · exact ⟨_, rfl, _, rfl, (by show 3 ≤ sizeLine; decide), fun p hp => fin (.less hn tn) _ D4 (W4.mono (by omega)) ⟨hn1, tn1⟩ trivial (fun _ => trivial) p hp⟩
    refine ⟨_, rfl, rfl, _, rfl, ite2 (fun _ => ?_) (fun k2 => ?_)⟩
    · refine ⟨_, rfl, _, rfl, _, _, rfl, rfl, .inl ⟨by decide, by decide⟩, _, _, rfl, rfl, a, c + 4, 2 * R + 1, rfl, W4, by omega, by omega, Nat.lt_of_le_of_lt (show _ ≤ 1000 by omega) (by decide +kernel), fun r5 H5 r50 r51 d5 e5 w5 => ⟨_, rfl, _, _, rfl, rfl, _, rfl, (by show 3 ≤ sizeLine; decide), fun p hp => ?_⟩⟩
      exact fin (.move (r5 - R) hn) _ (D4.trans d5) (w5.mono (by omega)) ⟨by omega, hn1⟩ ⟨by omega, by omega⟩ (fun _ => trivial) p hp
    refine ⟨_, rfl, rfl, _, rfl, ite2 (fun _ => ?_) (fun k3 => ?_)⟩
    · refine ⟨_, rfl, _, rfl, a, c + 4, (fc : Int), rfl, W4, by omega, by omega, Nat.lt_of_le_of_lt (show _ ≤ 1000 by omega) (by decide +kernel), fun r5 H5 r50 r51 d5 e5 w5 => ⟨_, rfl, (by show 3 ≤ sizeLine; decide), fun p hp => ?_⟩⟩
      obtain ⟨fn, rfl⟩ : ∃ n : Nat, r5 = (n : Int) := ⟨r5.toNat, by omega⟩
      exact fin (.keep fn hn) _ (D4.trans d5) (w5.mono (by omega)) ⟨by omega, hn1⟩ trivial (fun _ => trivial) p hp
    refine ⟨fun σ G => σ = [some (.ref a), some (.int fc), some (.int i), some (.bl fr), some (.int R), some (.int hc), some (.int r1), some (.int hn), some (.int tn), none] ∧ G = H4, ?_, fun σ G hM => ?_⟩
    · refine ⟨_, rfl, rfl, _, rfl, ite2 (fun _ => ?_) (fun k4 => ⟨rfl, rfl⟩)⟩
      refine ⟨_, rfl, _, _, rfl, rfl, _, rfl, ite2 (fun k5 => ?_) (fun _ => ⟨rfl, rfl⟩)⟩
      have hc0 : 0 < (hc : Int) := toB k5
      refine ⟨_, rfl, _, rfl, a, c + 4, (hc : Int), rfl, W4, by omega, by omega, Nat.lt_of_le_of_lt (show _ ≤ 1000 by omega) (by decide +kernel), fun r5 H5 r50 r51 d5 e5 w5 => ⟨(by show 2 ≤ sizeLine; decide), fun p hp => ?_⟩⟩
      obtain ⟨kn, rfl⟩ : ∃ n : Nat, r5 = (n : Int) := ⟨r5.toNat, by omega⟩
      exact fin (.old kn) _ (D4.trans d5) (w5.mono (by omega)) (show kn < hc by omega) trivial (fun _ => trivial) p hp
    obtain ⟨rfl, rfl⟩ := hM
    refine ⟨_, rfl, rfl, _, rfl, ite2 (fun _ => ?_) (fun k5 => ?_)⟩
    · exact ⟨(by show 1 ≤ sizeLine; decide), fun p hp => fin .inn _ D4 (W4.mono (by omega)) trivial trivial (fun _ => trivial) p hp⟩
    refine ⟨_, rfl, a, c + 4, 19, rfl, W4, by omega, by decide, by decide +kernel, fun r5 H5 r50 r51 d5 e5 w5 => ⟨_, _, rfl, rfl, ?_⟩⟩
    refine ⟨fun σ G => ∃ F : Int, F.natAbs < 9223372036854775808 ∧ (fr = true → F.natAbs ≤ 9) ∧ σ = [some (.ref a), some (.int fc), some (.int i), some (.bl fr), some (.int R), some (.int hc), some (.int r1), some (.int hn), some (.int tn), some (.int F)] ∧ SameBut a H G ∧ WellAt G a (c + 8), ?_, fun σ G hM => ?_⟩
    · refine ⟨_, rfl, _, rfl, ?_⟩
      cases fr with
      | true => exact iteF ⟨r5 - 9, by omega, (fun _ => by omega), rfl, D4.trans d5, w5.mono (by omega)⟩
      | false =>
        refine iteT ⟨_, rfl, a, c + 4 + 1, 3, rfl, w5, by omega, by decide, by decide +kernel, fun r6 H6 r60 r61 d6 e6 w6 => ⟨rfl, _, rfl, ite2 (fun _ => ?_) (fun _ => ⟨r5 - 9, by omega, (fun z => nomatch z), rfl, (D4.trans d5).trans d6, w6.mono (by omega)⟩)⟩⟩
        have b63 : ((2 : Int) ^ (63 : Int).toNat) = 9223372036854775808 := by decide
        have b5 : ((10 : Int) ^ (5 : Int).toNat) = 100000 := by decide
        refine ⟨_, rfl, _, _, rfl, rfl, ⟨by decide, by decide, by decide⟩, a, c + 4 + 1 + 1, 2 ^ (63 : Int).toNat, rfl, w6, by omega, by decide, by decide +kernel, fun r7 H7 r70 r71 d7 e7 w7 => ?_⟩
        refine ⟨_, rfl, _, _, rfl, rfl, ⟨by decide, by decide, by decide⟩, a, c + 4 + 1 + 1 + 1, 10 ^ (5 : Int).toNat, rfl, w7, by omega, by decide, by decide +kernel, fun r8 H8 r80 r81 d8 e8 w8 => ?_⟩
        rw [b63] at r71
        rw [b5] at r81
        refine ⟨_, _, rfl, rfl, .inl ⟨by decide, by decide⟩, _, _, rfl, rfl, _, _, rfl, rfl, wide_mul (show r7.natAbs < 2 ^ 64 from Nat.lt_of_le_of_lt (show _ ≤ 9223372036854775808 by omega) (by decide)) (show (1 + 2 * r8).natAbs < 2 ^ 30 from Nat.lt_of_le_of_lt (show _ ≤ 1000000 by omega) (by decide)) (by decide) (by decide) (by decide), ?_⟩
        refine ⟨_, _, rfl, rfl, _, _, rfl, rfl, ⟨by decide, by decide, by decide⟩, _, _, rfl, rfl, (by show (0 : Int) < 2 ^ (63 : Int).toNat; decide), _, rfl, _, _, rfl, rfl, (by show (0 : Int) < 2; decide), _, _, rfl, rfl, .inl ⟨by decide, by decide⟩, _, _, rfl, rfl, _, _, rfl, rfl, ?_, ?_⟩
        · refine wide_mul (show _ < 2 ^ 64 from ?_) (show _ < 2 ^ 30 from ?_) (by decide) (by decide) (by decide)
          · refine Nat.lt_of_lt_of_le (m := 9223372036854775808) ?_ (by decide)
            have m0 := Int.emod_nonneg (r7 * (1 + 2 * r8) + 1) (show ((2 : Int) ^ (63 : Int).toNat) ≠ 0 by decide)
            have m1 := Int.emod_lt_of_pos (r7 * (1 + 2 * r8) + 1) (show (0 : Int) < 2 ^ (63 : Int).toNat by decide)
            rw [b63] at m0 m1 ⊢
            omega
          · exact Nat.lt_of_le_of_lt (show _ ≤ 10 by omega) (by decide)
        · refine ⟨_, ?_, (fun z => nomatch z), rfl, (((D4.trans d5).trans d6).trans d7).trans d8, w8.mono (by omega)⟩
          have m0 := Int.emod_nonneg (r7 * (1 + 2 * r8) + 1) (show ((2 : Int) ^ (63 : Int).toNat) ≠ 0 by decide)
          have m1 := Int.emod_lt_of_pos (r7 * (1 + 2 * r8) + 1) (show (0 : Int) < 2 ^ (63 : Int).toNat by decide)
          rw [b63] at m0 m1 ⊢
          generalize (r7 * (1 + 2 * r8) + 1) % 9223372036854775808 = u at *
          rcases (by omega : (r5 - 9) % 2 = 0 ∨ (r5 - 9) % 2 = 1) with e | e
          · rw [e]
            omega
          · rw [e]
            omega
    obtain ⟨F, hF, hFs, rfl, D8, w8⟩ := hM
    refine ⟨_, rfl, _, rfl, _, rfl, _, _, rfl, rfl, a, c + 8, R + 1, rfl, w8, by omega, by omega, Nat.lt_of_le_of_lt (show _ ≤ 1000 by omega) (by decide +kernel), fun r9 H9 r90 r91 d9 e9 w9 => ⟨_, rfl, (by show 4 ≤ sizeLine; decide), fun p hp => ?_⟩⟩
    obtain ⟨mn, rfl⟩ : ∃ n : Nat, r9 = (n : Int) := ⟨r9.toNat, by omega⟩
    exact fin (.times F mn hn) _ (D8.trans d9) (w9.mono (by omega)) ⟨hF, by omega, hn1⟩ (show (mn : Int) ≤ R by omega) hFs p hp
end
end E1

namespace E1
open PySem PySem.Spec PyProof.Rows L2

theorem TsAt.push {H : Hp} {l p : Addr} {vs xs : List V} {xss : List (List V)} (hl : H l = some (.lst vs)) (t : TsAt H vs xss) (hp : H p = some (.tup xs)) : TsAt (upd H l (.lst (vs ++ [.ref p]))) (vs ++ [.ref p]) (xss ++ [xs]) := by
  refine TsAt.app (t.but SameBut.upd hl) (.cons ?_ .nil)
  rw [upd_ne (ne_of hp hl (fun z => nomatch z))]
  exact hp
def BegOk (hc : Nat) : Row → Prop
  | .inn => True
  | .old k => k < hc
  | _ => False
def spLBegin : Sp := fun vs H Q _ => ∃ (a : Addr) (hc : Nat) (c : Int), vs = [.ref a, .int hc] ∧ hc ≤ 3 ∧ WellAt H a c ∧ 0 ≤ c ∧ c ≤ 10000 ∧
  ∀ (rows : List Row) (l : Addr) (H' : Hp), (∀ r ∈ rows, BegOk hc r) → 1 ≤ rows.length → rows.length ≤ 6 → SameBut a H H' → WellAt H' a (c + 20) → l ≠ a → H l = none → TL7 H' l (rows.map Row.vs) → Q (.ref l) H'
/-- but for two -/
def SameBut2 (a l : Addr) (H H' : Hp) : Prop := ∀ b o, b ≠ a → b ≠ l → H b = some o → H' b = some o
theorem SameBut2.trans {a l : Addr} {H H1 H2 : Hp} (x : SameBut2 a l H H1) (y : SameBut2 a l H1 H2) : SameBut2 a l H H2 := fun b o n m e => y b o n m (x b o n m e)
theorem SameBut2.refl (a l : Addr) (H : Hp) : SameBut2 a l H H := fun _ _ _ _ e => e
theorem SameBut2.one {a l : Addr} {H H' : Hp} (s : SameBut a H H') : SameBut2 a l H H' := fun b o n _ e => s b o n e
theorem SameBut2.two {a l : Addr} {H H' : Hp} (s : SameBut l H H') : SameBut2 a l H H' := fun b o _ m e => s b o m e
theorem SameBut2.of {a l : Addr} {H H' : Hp} (s : Same H H') : SameBut2 a l H H' := fun b o _ _ e => s b o e
def MixRow (n0 : Nat) (M : Int) : Row → Prop
  | .times f m a => a < n0 ∧ (m : Int) ≤ M ∧ f.natAbs ≤ 9
  | .plus _ _ => True
  | .less _ _ => True
  | _ => False
def spLMixed : Sp := fun vs H Q _ => ∃ (a l : Addr) (rows : List Row) (M c : Int), vs = [.ref a, .ref l, .int M] ∧ TL7 H l (rows.map Row.vs) ∧ l ≠ a ∧ 0 ≤ M ∧ M ≤ 6 ∧ 1 ≤ rows.length ∧ rows.length ≤ 6 ∧ WellAt H a c ∧ 0 ≤ c ∧ c ≤ 10000 ∧
  ∀ (ex : List Row) (last : Nat) (H' : Hp), (∀ r ∈ ex, MixRow rows.length M r) → (∀ i r, (rows ++ ex)[i]? = some r → rows.length ≤ i → ∀ hc fc, RowOk hc fc i r) → last < (rows ++ ex).length → ex.length ≤ 10 → SameBut2 a l H H' → WellAt H' a (c + 20) → TL7 H' l ((rows ++ ex).map Row.vs) → Q (.int last) H'
def spLLink (K : PySem.W.Frag) : Sp := fun vs H Q _ => ∃ (a l : Addr) (rows : List Row) (kd last : Nat) (c : Int), vs = [.ref a, .ref l, .int kd, .int last] ∧ TL7 H l (rows.map Row.vs) ∧ l ≠ a ∧ last < rows.length ∧ rows.length ≤ 50 ∧ WellAt H a c ∧ 0 ≤ c ∧ c ≤ 10000 ∧
  ∀ (ex : List Row) (j x : Nat) (H' : Hp), (ex = [] ∨ ex = [.keep kd x] ∧ x < rows.length) → (∃ y, (rows ++ ex)[j]? = some (.keep kd y)) → SameBut2 a l H H' → WellAt H' a (c + 5) → TL7 H' l ((rows ++ ex).map Row.vs) → Q (.int j) H'
theorem range_snoc {β : Type} (f : Nat → β) (i : Nat) : (List.range (i + 1)).map f = (List.range i).map f ++ [f i] := by
  rw [List.range_succ, List.map_append]
  rfl
theorem snoc_at {rows ex : List Row} {r r' : Row} {i : Nat} (h : (rows ++ (ex ++ [r']))[i]? = some r) : (rows ++ ex)[i]? = some r ∨ (i = (rows ++ ex).length ∧ r = r') := by
  rw [← List.append_assoc] at h
  by_cases c : i < (rows ++ ex).length
  · rw [List.getElem?_append_left c] at h
    exact .inl h
  · rw [List.getElem?_append_right (by omega)] at h
    have : i - (rows ++ ex).length = 0 := by
      have := (List.getElem?_eq_some_iff.mp h).1
      simp only [List.length_singleton] at this
      omega
    rw [this] at h
    refine .inr ⟨by omega, (Option.some.inj h).symm⟩
section
variable {P : Program} {w : World} {K : PySem.W.Frag} {mg : Str → Option Value} {base : Heap}
theorem sc__law_begin : FnScope ["_law_well_here", "_law_held", "_law_k", "_law_made_here", "_law_at"] ["_law_well_here", "_law_held"] (defScope s__law_begin) := ⟨rfl, rfl, rfl, by decide +kernel, rfl, by decide +kernel, by decide +kernel⟩
theorem ok__law_begin {f : Addr} {fd : FuncData} (F : Fun K "_law_begin" "_law_begin" s__law_begin f fd) (z : Zs mg) (c__law_draw : Cal P w K mg base 1 "_law_draw" ["_law_well_here", "_law_many"] spDraw) : FnOk P w K mg base CX0 2 f fd ["_law_well_here", "_law_held"] spLBegin := by
  refine F.ok sc__law_begin (fun vs H Q E h => ?_) (fun cdv A outer s H vs Q E hr h => ?_)
  · obtain ⟨a, hc, c, rfl, _⟩ := h
    rfl
  · obtain ⟨a, hc, c, rfl, hc3, hw, c0, c1, q⟩ := h
    refine ⟨_, (pss_cons (ps_if (pt_cmpR op_eq (pe_cal c__law_draw hr (pa_cons (pv 0) (pa_cons pe_int pa_nil))) pe_int (nomark _)) (pss_one (ps_ret (pe_op op_cat (pe_lst (pa_cons (pe_tup (pa_cons pe_str pa_nil)) pa_nil)) (pe_lc (own := [("_law_k", 2)]) (g := gName 2) (tt := tYes) (te := (tTup (tCons (tC (.str "old")) (tCons (tVar 2) tNil)))) (by rfl) sc__law_begin.nd (pi_range1 (by rfl) z.range (pa_cons (pv 1) pa_nil)) (blkOk_by (own := [("_law_k", 2)]) (N := ["_law_well_here", "_law_held", "_law_k", "_law_made_here", "_law_at"]) (sc := defScope s__law_begin) (by decide +kernel)) (fun _ _ _ _ _ => by exact (pg_name (i := 2) sc__law_begin.nd rfl (.inl rfl))) (fun _ _ _ _ _ => by exact pts_nil) (fun _ _ _ _ _ => by exact (pe_tup (pa_cons pe_str (pa_cons (pv 2) pa_nil)))))))) pss_nil)
      (pss_cons (ps_set (i := 3) sc__law_begin.nd rfl (.inl rfl) (pe_lst pa_nil))
      (pss_cons (ps_for PassesOwn.never rfl (pi_range1 (by rfl) z.range (pa_cons (pe_op op_add pe_int (pe_cal c__law_draw hr (pa_cons (pv 0) (pa_cons (pe_op op_add (pv 1) pe_int) pa_nil)))) pa_nil)) (pg_name (i := 2) sc__law_begin.nd rfl (.inl rfl)) (pss_cons (ps_set (i := 4) sc__law_begin.nd rfl (.inl rfl) (pe_cal c__law_draw hr (pa_cons (pv 0) (pa_cons (pe_op op_add (pv 1) pe_int) pa_nil))))
      (pss_one (ps_expr (pe_bm PySem.F.plainAttrs_list PySem.F.slot_list_append PySem.F.type_list_append mt_append (pv 3) (pa_cons (pe_ix ix_list (pe_lst (pa_cons (pe_tup (pa_cons pe_str pa_nil)) (pa_cons (pe_tup (pa_cons pe_str (pa_cons (pe_op op_sub (pv 4) pe_int) pa_nil))) pa_nil))) (pe_callTy call_int1 (by rfl) z.int (by decide +kernel) (pa_cons (pe_cmpR op_gt (pv 4) pe_int (nomark _)) pa_nil)) (fun _ _ => rfl)) pa_nil))))))
      (pss_one (ps_ret (pv 3)))))), ?_⟩
    obtain ⟨wxs, hwx⟩ := hw.lst
    refine ⟨_, rfl, a, c, 3, rfl, hw, by omega, by decide, by decide +kernel, fun r1 H1 r10 r11 d1 e1 w1 => ⟨rfl, _, rfl, ite2 (fun _ => ?_) (fun _ => ?_)⟩⟩
    · refine ⟨(by show 1 ≤ sizeLine; decide), fun t ht => ?_⟩
      generalize hG : upd _ t _ = G1
      obtain ⟨s1, h_t⟩ := upd_gen hG ht
      refine ⟨(by show 1 ≤ sizeLine; decide), fun l1 hl1 => ?_⟩
      generalize hG2 : upd _ l1 _ = G2
      obtain ⟨s2, h_l1⟩ := upd_gen hG2 hl1
      refine ⟨_, rfl, hc, rfl, by omega, by omega, fun Dl hD => ?_⟩
      refine lc_it walk_range (fun i G => Same G2 G ∧ ∃ ws, G Dl = some (.lst ws) ∧ ws.length = i ∧ TsAt G ws ((List.range i).map fun k => (Row.old k).vs)) ⟨same_new hD, [], upd_same, rfl, .nil⟩ (fun _ _ _ _ => trivial) (fun i x G G' hi hP hY => ?_) (fun G hP => ?_)
      · obtain ⟨s3, ws, hd, lw, ht3⟩ := hP
        obtain ⟨rfl, rfl⟩ := hY
        refine ⟨rfl, _, rfl, (by show 2 ≤ sizeLine; decide), fun p hp => ?_⟩
        generalize hG3 : upd _ p _ = G3
        obtain ⟨s4, h_p⟩ := upd_gen hG3 hp
        have hd4 := s4 _ _ hd
        refine ⟨ws, hd4, sl_lt (by omega), fun b o e => ?_, _, upd_same, by rw [List.length_append, lw]; rfl, ?_⟩
        · rw [upd_ne (ne_of_none e hD)]
          exact s4 _ _ (s3 _ _ e)
        · rw [range_snoc]
          refine TsAt.push hd4 (ht3.same s4) ?_
          rw [h_p]
          show some (HO.tup [V.str "old", V.int (0 + (i : Int))]) = some (.tup [.str "old", .int (i : Int)])
          rw [Int.zero_add]
      · obtain ⟨s3, ws, hd, lw, ht3⟩ := hP
        refine ⟨l1, Dl, _, _, rfl, rfl, s3 _ _ h_l1, hd, sl_le (by simp only [List.length_singleton]; omega), fun l hl => ?_⟩
        generalize hG3 : upd _ l _ = G3
        obtain ⟨s4, h_l⟩ := upd_gen hG3 hl
        have S : Same H1 G3 := (s1.trans s2).trans (s3.trans s4)
        have w3 := w1.same S
        have nl : l ≠ a := ((w1.same ((s1.trans s2).trans s3))).ne hl
        refine q (.inn :: (List.range hc).map Row.old) l _ (fun r hr => ?_) (by simp) (by simp; omega) (d1.trans (.of S)) (w3.mono (by omega)) nl (same_free d1 hwx (((s1.trans s2).trans s3).free hl) nl) ⟨_, h_l, ?_⟩
        · rcases List.mem_cons.mp hr with rfl | hr
          · trivial
          · obtain ⟨k, hk, rfl⟩ := List.mem_map.mp hr
            exact List.mem_range.mp hk
        · refine TsAt.cons (s4 _ _ (s3 _ _ (s2 _ _ h_t))) ?_
          rw [List.map_map]
          exact ht3.same s4
    · refine ⟨(by show 0 ≤ sizeLine; decide), fun l hl => ?_⟩
      generalize hG : upd _ l _ = G0
      obtain ⟨s0, h_l⟩ := upd_gen hG hl
      have nl : l ≠ a := w1.ne hl
      have w0 := w1.same s0
      have hl0 : H l = none := same_free d1 hwx hl nl
      refine ⟨_, rfl, _, rfl, _, _, rfl, rfl, a, c + 1, (hc : Int) + 3, rfl, w0, by omega, by omega, Nat.lt_of_le_of_lt (show _ ≤ 1000 by omega) (by decide +kernel), fun r2 H2 r20 r21 d2 e2 w2 => ⟨_, _, rfl, rfl, (1 + r2).toNat, by rw [Int.toNat_of_nonneg (by omega)], by omega, by omega, ?_⟩⟩
      replace h_l := d2 _ _ nl h_l
      refine for_it walk_range (fun i σ G => ∃ (rows : List Row) (y1 y2 : Option V), σ = [some (.ref a), some (.int hc), y1, some (.ref l), y2] ∧ rows.length = i ∧ (∀ r ∈ rows, BegOk hc r) ∧ SameBut a H G ∧ WellAt G a (c + 2 + i) ∧ TL7 G l (rows.map Row.vs)) ⟨[], none, none, rfl, rfl, (fun r h => nomatch h), (d1.trans (.of s0)).trans d2, w2.mono (by omega), [], h_l, .nil⟩ (fun _ _ _ _ _ => trivial) (fun i x σ G G' hi hP hY => ?_) (fun σ G hP => ?_)
      · obtain ⟨rows, y1, y2, rfl, lr, hb, sb, wl, rv, hrv, ht⟩ := hP
        obtain ⟨rfl, rfl⟩ := hY
        have i6 : i < 6 := by omega
        refine ⟨_, rfl, _, rfl, _, _, rfl, rfl, a, c + 2 + i, (hc : Int) + 1, rfl, wl, by omega, by omega, Nat.lt_of_le_of_lt (show _ ≤ 1000 by omega) (by decide +kernel), fun r3 H3 r30 r31 d3 e3 w3 => ?_⟩
        have hrv3 := d3 _ _ nl hrv
        obtain ⟨gxs, hgx⟩ := wl.lst
        have ht3 := ht.but d3 hgx
        refine ⟨_, rfl, .inl ⟨rfl, _, SqL.of hrv3⟩, (by show 1 ≤ sizeLine; decide), fun t1 ht1 => ?_⟩
        generalize hG1 : upd _ t1 _ = G1
        obtain ⟨s1, h_t1⟩ := upd_gen hG1 ht1
        refine ⟨_, rfl, _, _, rfl, rfl, (by show 2 ≤ sizeLine; decide), fun t2 ht2 => ?_⟩
        generalize hG2 : upd _ t2 _ = G2
        obtain ⟨s2, h_t2⟩ := upd_gen hG2 ht2
        refine ⟨(by show 2 ≤ sizeLine; decide), fun l3 hl3 => ?_⟩
        generalize hG3 : upd _ l3 _ = G3
        obtain ⟨s3, h_l3⟩ := upd_gen hG3 hl3
        have S := (s1.trans s2).trans s3
        replace h_t1 := s3 _ _ (s2 _ _ h_t1)
        replace h_t2 := s3 _ _ h_t2
        have hrv4 := S _ _ hrv3
        have ht4 := ht3.same S
        have w4 := w3.same S
        obtain ⟨r, p, hix, hbr, hpr⟩ : ∃ (r : Row) (p : Addr), atI [V.ref t1, V.ref t2] (if decide (r3 > 0) = true then 1 else 0) = some (.ref p) ∧ BegOk hc r ∧ G3 p = some (.tup r.vs) := by
          by_cases k : r3 > 0
          · refine ⟨.old (r3 - 1).toNat, t2, by rw [decide_eq_true k]; exact a1, show (r3 - 1).toNat < hc by omega, ?_⟩
            rw [h_t2]
            show some (HO.tup [V.str "old", V.int (r3 - 1)]) = some (.tup [.str "old", .int (((r3 - 1).toNat : Nat) : Int)])
            rw [show (((r3 - 1).toNat : Nat) : Int) = r3 - 1 by omega]
          · exact ⟨.inn, t1, by rw [decide_eq_false k]; exact a0, trivial, h_t1⟩
        refine ⟨_, rfl, _, _, rfl, rfl, .inr ⟨_, rfl, l3, _, _, .ref p, rfl, rfl, SqL.of h_l3, hix, l, _, _, rfl, rfl, hrv4, ?_, ?_⟩⟩
        · have := ht4.len
          rw [List.length_map] at this
          exact sl_lt (by omega)
        · refine ⟨rows ++ [r], _, _, rfl, by rw [List.length_append, lr]; rfl, fun x hx => ?_, ?_, ?_, _, upd_same, ?_⟩
          · rcases List.mem_append.mp hx with hx | hx
            · exact hb x hx
            · rw [List.mem_singleton.mp hx]
              exact hbr
          · refine fun b o n e => ?_
            rw [upd_ne (ne_of_none e hl0)]
            exact S _ _ (d3 _ _ n (sb _ _ n e))
          · exact (w4.but SameBut.upd nl.symm).mono (by omega)
          · rw [List.map_append]
            exact TsAt.push hrv4 ht4 hpr
      · obtain ⟨rows, y1, y2, rfl, lr, hb, sb, wl, tl⟩ := hP
        refine ⟨_, rfl, q rows l _ hb ?_ ?_ sb (wl.mono ?_) nl hl0 tl⟩
        all_goals omega
end
end E1

namespace E1
open PySem PySem.Spec PyProof.Rows L2

theorem TL7.push {G : Hp} {l p : Addr} {rows : List Row} {r : Row} {vs : List V} (hl : G l = some (.lst vs)) (t : TsAt G vs (rows.map Row.vs)) (hp : G p = some (.tup r.vs)) : TL7 (upd G l (.lst (vs ++ [.ref p]))) l ((rows ++ [r]).map Row.vs) := by
  refine ⟨_, upd_same, ?_⟩
  rw [List.map_append]
  exact TsAt.push hl t hp
theorem TsAt.rlen {G : Hp} {rows : List Row} {vs : List V} (t : TsAt G vs (rows.map Row.vs)) : vs.length = rows.length := by
  rw [t.len, List.length_map]
theorem snoc_len {rows ex : List Row} {r : Row} : (rows ++ (ex ++ [r])).length = (rows ++ ex).length + 1 := by simp only [List.length_append, List.length_singleton]; omega
/-- a row's first two things -/
def Row.d2 : Row → List PyData
  | .inn => [.str "in"]
  | .old k => [.str "old", .int k]
  | .times f _ _ => [.str "times", .int f]
  | .plus a _ => [.str "plus", .int a]
  | .less a _ => [.str "less", .int a]
  | .move m _ => [.str "move", .int m]
  | .keep f _ => [.str "keep", .int f]
theorem Row.d2_shaped (r : Row) : SeqAt.shaped (.tuple r.d2) = true := by
  have k1 : ∀ (z : Str) (k : Int), PyData.canLay0 (.str z) = true → SeqAt.shaped (.tuple [.str z, .int k]) = true := fun z k h => by
    show (PyData.canLay0 (.tuple [.str z, .int k]) && decide (PyData.depth (.tuple [.str z, .int k]) ≤ 64)) = true
    have e : PyData.canLay0 (.tuple [.str z, .int k]) = true := by
      simp only [PyData.canLay0, PyData.canLayAll0, Bool.and_true] at h ⊢
      exact h
    rw [e, Bool.true_and]
    simp only [PyData.depth, PyData.depthAll]
    rfl
  cases r with
  | inn => exact (by decide +kernel : SeqAt.shaped (.tuple [.str "in"]) = true)
  | old k => exact k1 _ _ (by simp only [PyData.canLay0]; decide +kernel)
  | times f m a => exact k1 _ _ (by simp only [PyData.canLay0]; decide +kernel)
  | plus a b => exact k1 _ _ (by simp only [PyData.canLay0]; decide +kernel)
  | less a b => exact k1 _ _ (by simp only [PyData.canLay0]; decide +kernel)
  | move m a => exact k1 _ _ (by simp only [PyData.canLay0]; decide +kernel)
  | keep f a => exact k1 _ _ (by simp only [PyData.canLay0]; decide +kernel)
theorem Row.d2_keep (r : Row) (kd : Nat) (h : PyData.eqv (.tuple r.d2) (.tuple [.str "keep", .int kd]) = true) : ∃ y, r = .keep kd y := by
  have ne : ∀ (z : Str), (z == ("keep" : Str)) = false → ∀ t, PyData.eqv (.tuple (.str z :: t)) (.tuple [.str "keep", .int kd]) = true → False := fun z hz t e => by
    simp only [PyData.eqv, PyData.eqvAll] at e
    rw [hz] at e
    cases e
  cases r with
  | inn => exact (ne _ (by decide +kernel) _ h).elim
  | old k => exact (ne _ (by decide +kernel) _ h).elim
  | times f m a => exact (ne _ (by decide +kernel) _ h).elim
  | plus a b => exact (ne _ (by decide +kernel) _ h).elim
  | less a b => exact (ne _ (by decide +kernel) _ h).elim
  | move m a => exact (ne _ (by decide +kernel) _ h).elim
  | keep f a =>
    simp only [Row.d2, PyData.eqv, PyData.eqvAll, Bool.and_true, Bool.and_eq_true, beq_iff_eq] at h
    have := h.2
    refine ⟨a, ?_⟩
    congr 1
    omega
theorem Row.dp1 {K : PySem.W.Frag} {H : Hp} (r : Row) (h : HT.sIx r.vs.length 0 none = 0 ∧ HT.sIx r.vs.length r.vs.length (some 2) = r.vs.length) : DpAll K H r.vs r.d2 := by
  cases r with
  | inn => exact .cons (.str _) .nil
  | old k => exact .cons (.str _) (.cons (.int _) .nil)
  | times f m a => exact absurd h (by show ¬ (HT.sIx 4 0 none = 0 ∧ HT.sIx 4 4 (some 2) = 4); decide)
  | plus a b => exact absurd h (by show ¬ (HT.sIx 3 0 none = 0 ∧ HT.sIx 3 3 (some 2) = 3); decide)
  | less a b => exact absurd h (by show ¬ (HT.sIx 3 0 none = 0 ∧ HT.sIx 3 3 (some 2) = 3); decide)
  | move m a => exact absurd h (by show ¬ (HT.sIx 3 0 none = 0 ∧ HT.sIx 3 3 (some 2) = 3); decide)
  | keep f a => exact absurd h (by show ¬ (HT.sIx 3 0 none = 0 ∧ HT.sIx 3 3 (some 2) = 3); decide)
theorem Row.dp2 {K : PySem.W.Frag} {H : Hp} (r : Row) : DpAll K H (cutV r.vs none (some 2)) r.d2 := by
  cases r with
  | inn => exact .cons (.str _) .nil
  | old k => exact .cons (.str _) (.cons (.int _) .nil)
  | times f m a => exact .cons (.str _) (.cons (.int _) .nil)
  | plus a b => exact .cons (.str _) (.cons (.int _) .nil)
  | less a b => exact .cons (.str _) (.cons (.int _) .nil)
  | move m a => exact .cons (.str _) (.cons (.int _) .nil)
  | keep f a => exact .cons (.str _) (.cons (.int _) .nil)
theorem dp_nats {K : PySem.W.Frag} {H : Hp} : ∀ ns : List Nat, DpAll K H (ns.map fun n : Nat => V.int (n : Int)) ((ns.map fun n : Nat => (n : Int)).map PyData.int)
  | [] => .nil
  | _ :: ns => .cons (.int _) (dp_nats ns)
section
variable {P : Program} {w : World} {K : PySem.W.Frag} {mg : Str → Option Value} {base : Heap}
theorem sc__law_mixed : FnScope ["_law_well_here", "_law_made_here", "_law_reach", "_law_last", "_law_at", "_law_factor"] ["_law_well_here", "_law_made_here", "_law_reach"] (defScope s__law_mixed) := ⟨rfl, rfl, rfl, by decide +kernel, rfl, by decide +kernel, by decide +kernel⟩
theorem ok__law_mixed {f : Addr} {fd : FuncData} (F : Fun K "_law_mixed" "_law_mixed" s__law_mixed f fd) (z : Zs mg) (c__law_draw : Cal P w K mg base 1 "_law_draw" ["_law_well_here", "_law_many"] spDraw) : FnOk P w K mg base CX0 2 f fd ["_law_well_here", "_law_made_here", "_law_reach"] spLMixed := by
  refine F.ok sc__law_mixed (fun vs H Q E h => ?_) (fun cdv A outer s H vs Q E hr h => ?_)
  · obtain ⟨a, l, rows, M, c, rfl, _⟩ := h
    rfl
  · obtain ⟨a, l, rows, M, c, rfl, ⟨rv, hl, ht⟩, nl, M0, M1, l1, l6, hw, c0, c1, q⟩ := h
    refine ⟨_, (pss_cons (ps_set (i := 3) sc__law_mixed.nd rfl (.inl rfl) pe_int)
      (pss_cons (ps_for PassesOwn.never rfl (pi_range2 (by rfl) z.range (pa_cons pe_int (pa_cons (pe_callB call_len_seq (by rfl) z.len PySem.boot_len (pa_cons (pv 1) pa_nil)) pa_nil))) (pg_name (i := 4) sc__law_mixed.nd rfl (.inl rfl)) (pss_cons (ps_set (i := 5) sc__law_mixed.nd rfl (.inl rfl) (pe_op op_sub (pe_cal c__law_draw hr (pa_cons (pv 0) (pa_cons pe_int pa_nil))) pe_int))
      (pss_cons (ps_expr (pe_bm PySem.F.plainAttrs_list PySem.F.slot_list_append PySem.F.type_list_append mt_append (pv 1) (pa_cons (pe_tup (pa_cons pe_str (pa_cons (pv 5) (pa_cons (pe_cal c__law_draw hr (pa_cons (pv 0) (pa_cons (pe_op op_add (pv 2) pe_int) pa_nil))) (pa_cons (pv 4) pa_nil))))) pa_nil)))
      (pss_cons (ps_expr (pe_bm PySem.F.plainAttrs_list PySem.F.slot_list_append PySem.F.type_list_append mt_append (pv 1) (pa_cons (pe_tup (pa_cons (pe_ix ix_list (pe_lst (pa_cons pe_str (pa_cons pe_str pa_nil))) (pe_cal c__law_draw hr (pa_cons (pv 0) (pa_cons pe_int pa_nil))) (fun _ _ => rfl)) (pa_cons (pv 3) (pa_cons (pe_op op_sub (pe_callB call_len_seq (by rfl) z.len PySem.boot_len (pa_cons (pv 1) pa_nil)) pe_int) pa_nil)))) pa_nil)))
      (pss_one (ps_set (i := 3) sc__law_mixed.nd rfl (.inl rfl) (pe_op op_sub (pe_callB call_len_seq (by rfl) z.len PySem.boot_len (pa_cons (pv 1) pa_nil)) pe_int)))))))
      (pss_one (ps_ret (pv 3))))), ?_⟩
    have ll := ht.rlen
    refine ⟨_, rfl, l, _, rfl, .inl (SqL.of hl), 1, _, rfl, ⟨by omega, by omega, by omega, by omega⟩, ?_⟩
    refine for_it walk_range (fun i σ G => ∃ (ex : List Row) (last : Nat) (y4 y5 : Option V), σ = [some (.ref a), some (.ref l), some (.int M), some (.int last), y4, y5] ∧ ex.length = 2 * i ∧ (∀ r ∈ ex, MixRow rows.length M r) ∧ (∀ j r, (rows ++ ex)[j]? = some r → rows.length ≤ j → ∀ hc fc, RowOk hc fc j r) ∧ last < (rows ++ ex).length ∧ SameBut2 a l H G ∧ WellAt G a (c + 3 * i) ∧ TL7 G l ((rows ++ ex).map Row.vs)) ⟨[], 0, none, none, rfl, rfl, (fun r x => nomatch x), (fun j r e k => ?_), ?_, SameBut2.refl _ _ _, hw.mono (by omega), rv, hl, by rw [List.append_nil]; exact ht⟩ (fun _ _ _ _ _ => trivial) (fun i x σ G G' hi hP hY => ?_) (fun σ G hP => ?_)
    · rw [List.append_nil] at e
      have := (List.getElem?_eq_some_iff.mp e).1
      omega
    · rw [List.append_nil]
      omega
    · obtain ⟨ex, last, y4, y5, rfl, le, hm, hk, hla, sb, wl, vs, hv, htv⟩ := hP
      obtain ⟨rfl, rfl⟩ := hY
      rw [ll] at hi
      have hi5 : i < 5 := by omega
      have at_ : (1 + i : Nat) < rows.length := by omega
      have la : (rows ++ ex).length = rows.length + 2 * i := by rw [List.length_append, le]
      have lv := htv.rlen
      obtain ⟨gx, hgx⟩ := wl.lst
      refine ⟨_, rfl, a, c + 3 * i, 19, rfl, wl, by omega, by decide, by decide +kernel, fun r1 H1 r10 r11 d1 e1 w1 => ⟨_, _, rfl, rfl, ?_⟩⟩
      obtain ⟨gx1, hgx1⟩ := w1.lst
      have hv1 := d1 _ _ nl hv
      have ht1 := htv.but d1 hgx
      refine ⟨_, rfl, .inl ⟨rfl, _, SqL.of hv1⟩, _, rfl, _, rfl, _, rfl, _, _, rfl, rfl, a, c + 3 * i + 1, M + 1, rfl, w1, by omega, by omega, Nat.lt_of_le_of_lt (show _ ≤ 1000 by omega) (by decide +kernel), fun r2 H2 r20 r21 d2 e2 w2 => ?_⟩
      obtain ⟨m, rfl⟩ : ∃ n : Nat, r2 = (n : Int) := ⟨r2.toNat, by omega⟩
      have hv2 := d2 _ _ nl hv1
      have ht2 := ht1.but d2 hgx1
      refine ⟨_, rfl, (by show 4 ≤ sizeLine; decide), fun p hp => ?_⟩
      generalize hG : upd _ p _ = G3
      obtain ⟨s3, h_p⟩ := upd_gen hG hp
      have hv3 := s3 _ _ hv2
      have ht3 := ht2.same s3
      have w3 := w2.same s3
      have hp3 : G3 p = some (.tup (Row.times (r1 - 9) m (1 + i)).vs) := by
        rw [h_p]
        show some (HO.tup [V.str "times", V.int (r1 - 9), V.int (m : Int), V.int (1 + (i : Int))]) = some (.tup [.str "times", .int (r1 - 9), .int (m : Int), .int ((1 + i : Nat) : Int)])
        rw [show ((1 + i : Nat) : Int) = 1 + (i : Int) by omega]
      refine ⟨l, _, _, rfl, rfl, hv3, sl_lt (by omega), ?_⟩
      have t4 := TL7.push hv3 ht3 hp3
      generalize hG4 : upd _ l _ = G4 at t4
      obtain ⟨s4, _⟩ := upd_but hG4
      obtain ⟨vs4, hv4, ht4⟩ := t4
      have lv4 := ht4.rlen
      rw [List.length_append, List.length_singleton] at lv4
      have w4 := w3.but s4 nl.symm
      refine ⟨_, rfl, .inl ⟨rfl, _, SqL.of hv4⟩, (by show 2 ≤ sizeLine; decide), fun l5 hl5 => ?_⟩
      generalize hG5 : upd _ l5 _ = G5
      obtain ⟨s5, h_l5⟩ := upd_gen hG5 hl5
      have w5 := w4.same s5
      have n5 := w4.ne hl5
      obtain ⟨gx5, hgx5⟩ := w5.lst
      refine ⟨_, rfl, a, c + 3 * i + 1 + 1, 2, rfl, w5, by omega, by decide, by decide +kernel, fun r6 H6 r60 r61 d6 e6 w6 => ?_⟩
      have hv6 := d6 _ _ nl (s5 _ _ hv4)
      have ht6 := (ht4.same s5).but d6 hgx5
      obtain ⟨v, i3, o3⟩ := twoI (x := V.str "plus") (y := V.str "less") r60 r61
      refine ⟨l5, _, r6, _, rfl, rfl, SqL.of (d6 _ _ n5 h_l5), i3, _, rfl, _, rfl, l, _, rfl, .inl (SqL.of hv6), _, _, rfl, rfl, (by show 3 ≤ sizeLine; decide), fun p7 hp7 => ?_⟩
      generalize hG7 : upd _ p7 _ = G7
      obtain ⟨s7, h_p7⟩ := upd_gen hG7 hp7
      obtain ⟨r, hr, hp8, rok, rmx⟩ : ∃ r : Row, (r = .plus last (rows.length + 2 * i) ∨ r = .less last (rows.length + 2 * i)) ∧ G7 p7 = some (.tup r.vs) ∧ (∀ hc fc, RowOk hc fc (rows.length + 2 * i + 1) r) ∧ MixRow rows.length M r := by
        have e : (vs4.length : Int) - 1 = ((rows.length + 2 * i : Nat) : Int) := by omega
        dsimp only at h_p7
        rw [e] at h_p7
        rcases o3 with rfl | rfl
        · exact ⟨_, .inl rfl, h_p7, fun _ _ => ⟨by omega, by omega⟩, trivial⟩
        · exact ⟨_, .inr rfl, h_p7, fun _ _ => ⟨by omega, by omega⟩, trivial⟩
      have hv7 := s7 _ _ hv6
      refine ⟨l, _, _, rfl, rfl, hv7, sl_lt (by omega), ?_⟩
      have t8 := TL7.push hv7 (ht6.same s7) hp8
      generalize hG8 : upd _ l _ = G8 at t8
      obtain ⟨s8, _⟩ := upd_but hG8
      obtain ⟨vs8, hv8, ht8⟩ := t8
      have lv8 := ht8.rlen
      rw [List.length_append, List.length_append, List.length_singleton, List.length_singleton] at lv8
      refine ⟨_, rfl, l, _, rfl, .inl (SqL.of hv8), _, _, rfl, rfl, ex ++ [.times (r1 - 9) m (1 + i)] ++ [r], rows.length + 2 * i + 1, some (.int (1 + (i : Int))), some (.int (r1 - 9)), ?_, ?_, ?_, ?_, ?_, ?_, ?_, vs8, hv8, ?_⟩
      · have e : (vs8.length : Int) - 1 = ((rows.length + 2 * i + 1 : Nat) : Int) := by omega
        show [some (V.ref a), some (V.ref l), some (V.int M), some (V.int ((vs8.length : Int) - 1)), some (V.int (1 + (i : Int))), some (V.int (r1 - 9))] = _
        rw [e]
      · simp only [List.length_append, List.length_singleton]
        omega
      · intro x hx
        rcases List.mem_append.mp hx with hx | hx
        · rcases List.mem_append.mp hx with hx | hx
          · exact hm x hx
          · rw [List.mem_singleton.mp hx]
            exact ⟨at_, by omega, by omega⟩
        · rw [List.mem_singleton.mp hx]
          exact rmx
      · intro j x e kk hc fc
        rcases snoc_at e with e | ⟨rfl, rfl⟩
        · rcases snoc_at e with e | ⟨rfl, rfl⟩
          · exact hk j x e kk hc fc
          · rw [la]
            exact ⟨by omega, by omega, by omega⟩
        · rw [snoc_len, la]
          exact rok hc fc
      · rw [snoc_len, snoc_len, la]
        omega
      · exact sb.trans ((SameBut2.one (d1.trans (d2.trans (.of s3)))).trans ((SameBut2.two s4).trans ((SameBut2.one ((SameBut.of s5).trans (d6.trans (.of s7)))).trans (.two s8))))
      · exact ((w6.same s7).but s8 nl.symm).mono (by omega)
      · rw [← List.append_assoc, ← List.append_assoc]
        exact ht8
    · obtain ⟨ex, last, y4, y5, rfl, le, hm, hk, hla, sb, wl, tl⟩ := hP
      rw [ll] at le wl
      exact ⟨_, rfl, q ex last G hm hk hla (by omega) sb (wl.mono (by omega)) tl⟩
theorem sc__law_link : FnScope ["_law_well_here", "_law_made_here", "_law_kind", "_law_last", "_law_some", "_law_at", "_law_thing"] ["_law_well_here", "_law_made_here", "_law_kind", "_law_last"] (defScope s__law_link) := ⟨rfl, rfl, rfl, by decide +kernel, rfl, by decide +kernel, by decide +kernel⟩
theorem ok__law_link {f : Addr} {fd : FuncData} (F : Fun K "_law_link" "_law_link" s__law_link f fd) (z : Zs mg) (c__law_draw : Cal P w K mg base 1 "_law_draw" ["_law_well_here", "_law_many"] spDraw) : FnOk P w K mg base CX0 2 f fd ["_law_well_here", "_law_made_here", "_law_kind", "_law_last"] (spLLink K) := by
  refine F.ok sc__law_link (fun vs H Q E h => ?_) (fun cdv A outer s H vs Q E hr h => ?_)
  · obtain ⟨a, l, rows, kd, last, c, rfl, _⟩ := h
    rfl
  · obtain ⟨a, l, rows, kd, last, c, rfl, ⟨rv, hl, ht⟩, nl, la, lr, hw, c0, c1, q⟩ := h
    refine ⟨_, (pss_cons (ps_setLc (i := 4) (own := [("_law_at", 5), ("_law_thing", 6)]) (g := gTup K 2 (gCons (gName 5) (gCons (gName 6) gNil))) (te := (tVar 5)) (tt := (tTest (tOp (rEqD K) (tSl (rSlA K) (tVar 6) tNoPart (tPart (tC (.int 2)))) (tTup (tCons (tC (.str "keep")) (tCons (tVar 2) tNil)))))) (by rfl) sc__law_link.nd rfl rfl (sw_true rfl rfl rfl (by decide +kernel)) (pi_enum (by rfl) z.enumerate (pa_cons (pv 1) pa_nil)) (blkOk_by (own := [("_law_at", 5), ("_law_thing", 6)]) (N := ["_law_well_here", "_law_made_here", "_law_kind", "_law_last", "_law_some", "_law_at", "_law_thing"]) (sc := defScope s__law_link) (by decide +kernel)) (fun _ _ _ _ _ => by exact (pg_tup (by rfl) (pgs_cons (pg_name (i := 5) sc__law_link.nd rfl (.inl rfl)) (pgs_cons (pg_name (i := 6) sc__law_link.nd rfl (.inl rfl)) pgs_nil)))) (fun _ _ _ _ _ => by exact (pts_one (pt_cmpR (op_eqD hr.units) (pe_slice sl_tupA (pv 6) po_none (po_some pe_int)) (pe_tup (pa_cons pe_str (pa_cons (pv 2) pa_nil))) (nomark _)))) (fun _ _ _ _ _ => by exact (pv 5)))
      (C8.pss_cut (ps_if (PW.pt (pw_and (pt_cmpR (op_neD hr.units) (pv 4) (pe_lst pa_nil) (nomark _)) (pw_and1 (pt_cmpR op_eq (pe_cal c__law_draw hr (pa_cons (pv 0) (pa_cons pe_int pa_nil))) pe_int (nomark _))))) (pss_one (ps_ret (pe_ix ix_list (pv 4) (pe_cal c__law_draw hr (pa_cons (pv 0) (pa_cons (pe_callB call_len_seq (by rfl) z.len PySem.boot_len (pa_cons (pv 4) pa_nil)) pa_nil))) (fun _ _ => rfl)))) pss_nil)
      (pss_cons (ps_expr (pe_bm PySem.F.plainAttrs_list PySem.F.slot_list_append PySem.F.type_list_append mt_append (pv 1) (pa_cons (pe_tup (pa_cons pe_str (pa_cons (pv 2) (pa_cons (pe_ix ix_list (pe_lst (pa_cons (pv 3) (pa_cons (pe_op op_sub (pe_callB call_len_seq (by rfl) z.len PySem.boot_len (pa_cons (pv 1) pa_nil)) pe_int) (pa_cons (pe_cal c__law_draw hr (pa_cons (pv 0) (pa_cons (pe_callB call_len_seq (by rfl) z.len PySem.boot_len (pa_cons (pv 1) pa_nil)) pa_nil))) pa_nil)))) (pe_cal c__law_draw hr (pa_cons (pv 0) (pa_cons pe_int pa_nil))) (fun _ _ => rfl)) pa_nil)))) pa_nil)))
      (pss_one (ps_ret (pe_op op_sub (pe_callB call_len_seq (by rfl) z.len PySem.boot_len (pa_cons (pv 1) pa_nil)) pe_int)))))), ?_⟩
    have ll := ht.rlen
    refine ⟨_, rfl, l, _, rfl, SqL.of hl, fun D hD => ?_⟩
    refine lc_it (walk_enum (K := K) (a := l) (xs := rv)) (fun i G => Same H G ∧ ∃ ns : List Nat, G D = some (.lst (ns.map fun n : Nat => V.int (n : Int))) ∧ ns.length ≤ i ∧ ∀ n ∈ ns, ∃ y, rows[n]? = some (.keep kd y)) ⟨same_new hD, [], upd_same, Nat.le_refl _, (fun n x => nomatch x)⟩ (fun i G _ hP => SqL.of (hP.1 _ _ hl)) (fun i v G G' hi hP hY => ?_) (fun G hP => ?_)
    · obtain ⟨s1, ns, hd, ln, hns⟩ := hP
      obtain ⟨Tp, u, v', rfl, nT, rfl, e1, e2⟩ := hY
      cases e1
      obtain ⟨p, xs, rfl, ex, hp⟩ := ht.get e2
      rw [List.getElem?_map] at ex
      obtain ⟨r, er, rfl⟩ := Option.map_eq_some_iff.mp ex
      have sN := same_new (o := .tup [.int (i : Nat), .ref p]) nT
      replace hp := s1 _ _ hp
      refine ⟨Tp, _, rfl, SqT.of upd_same, rfl, _, _, rfl, _, _, rfl, rfl, rfl, ?_⟩
      refine ⟨_, rfl, _, rfl, p, _, rfl, SqT.of (sN _ _ hp), fun hwh => ?_, fun hwh c1 hc1 => ?_⟩
      · refine ⟨_, rfl, (by show 2 ≤ sizeLine; decide), fun c2 hc2 => ?_⟩
        generalize hG2 : upd _ c2 _ = G2
        obtain ⟨s4, h_c2⟩ := upd_gen hG2 hc2
        have S := sN.trans s4
        refine ⟨.tuple r.d2, .tuple [.str "keep", .int kd], .tup (SqT.of (s4 _ _ (sN _ _ hp))) (r.dp1 hwh), .tup (SqT.of h_c2) (.cons (.str _) (.cons (.int _) .nil)), r.d2_shaped, kp_shaped _, _, rfl, ?_⟩
        refine ite2 (fun heq => ?_) (fun _ => ?_)
        · obtain ⟨y, rfl⟩ := r.d2_keep kd heq
          refine ⟨_, rfl, _, S _ _ hd, sl_lt (by rw [List.length_map]; omega), fun b o e => ?_, ns ++ [i], ?_, ?_, ?_⟩
          · rw [upd_ne (ne_of_none e hD)]
            exact S _ _ (s1 _ _ e)
          · rw [upd_same, List.map_append]
            rfl
          · rw [List.length_append, List.length_singleton]
            omega
          · intro n hn
            rcases List.mem_append.mp hn with hn | hn
            · exact hns n hn
            · rw [List.mem_singleton.mp hn]
              exact ⟨y, er⟩
        · exact ⟨s1.trans S, ns, S _ _ hd, by omega, hns⟩
      · generalize hG1 : upd _ c1 _ = G1
        obtain ⟨s5, h_c1⟩ := upd_gen hG1 hc1
        refine ⟨_, rfl, (by show 2 ≤ sizeLine; decide), fun c2 hc2 => ?_⟩
        generalize hG2 : upd _ c2 _ = G2
        obtain ⟨s4, h_c2⟩ := upd_gen hG2 hc2
        have S := sN.trans (s5.trans s4)
        refine ⟨.tuple r.d2, .tuple [.str "keep", .int kd], .tup (SqT.of (s4 _ _ h_c1)) r.dp2, .tup (SqT.of h_c2) (.cons (.str _) (.cons (.int _) .nil)), r.d2_shaped, kp_shaped _, _, rfl, ?_⟩
        refine ite2 (fun heq => ?_) (fun _ => ?_)
        · obtain ⟨y, rfl⟩ := r.d2_keep kd heq
          refine ⟨_, rfl, _, S _ _ hd, sl_lt (by rw [List.length_map]; omega), fun b o e => ?_, ns ++ [i], ?_, ?_, ?_⟩
          · rw [upd_ne (ne_of_none e hD)]
            exact S _ _ (s1 _ _ e)
          · rw [upd_same, List.map_append]
            rfl
          · rw [List.length_append, List.length_singleton]
            omega
          · intro n hn
            rcases List.mem_append.mp hn with hn | hn
            · exact hns n hn
            · rw [List.mem_singleton.mp hn]
              exact ⟨y, er⟩
        · exact ⟨s1.trans S, ns, S _ _ hd, by omega, hns⟩
    · obtain ⟨s1, ns, hd, ln, hns⟩ := hP
      rw [ll] at ln
      have w1 := hw.same s1
      have l1 := s1 _ _ hl
      have nD : D ≠ a := hw.ne hD
      refine ⟨fun σ G2 => σ = [some (.ref a), some (.ref l), some (.int kd), some (.int last), some (.ref D), none, none] ∧ SameBut a H G2 ∧ WellAt G2 a (c + 1), ?_, fun σ G2 hM => ?_⟩
      · refine ⟨_, rfl, (by show 0 ≤ sizeLine; decide), fun z hz => ?_⟩
        generalize hG1 : upd _ z _ = G1
        obtain ⟨s2, h_z⟩ := upd_gen hG1 hz
        refine ⟨.list ((ns.map fun n : Nat => (n : Int)).map PyData.int), .list (([] : List Int).map PyData.int), .lst (SqL.of (s2 _ _ hd)) (dp_nats ns), .lst (SqL.of h_z) .nil, PySem.W.ke_shaped_ints _, PySem.W.ke_shaped_ints _, _, rfl, ?_⟩
        cases ns with
        | nil => exact iteF ⟨rfl, .of (s1.trans s2), (w1.same s2).mono (by omega)⟩
        | cons n0 nt =>
          refine iteT ⟨_, rfl, a, c, 3, rfl, (w1.same s2), by omega, by decide, by decide +kernel, fun r3 H3 r30 r31 d3 e3 w3 => ⟨rfl, _, rfl, ite2 (fun _ => ?_) (fun _ => ⟨rfl, (SameBut.of (s1.trans s2)).trans d3, w3⟩)⟩⟩
          have hd3 := d3 _ _ nD (s2 _ _ hd)
          refine ⟨_, rfl, _, rfl, _, rfl, D, _, rfl, .inl (SqL.of hd3), a, c + 1, _, rfl, w3, by omega, by rw [List.length_map, List.length_cons]; omega, Nat.lt_of_le_of_lt (show _ ≤ 1000 by rw [List.length_map]; omega) (by decide +kernel), fun r4 H4 r40 r41 d4 e4 w4 => ?_⟩
          rw [List.length_map] at r41
          obtain ⟨j, rfl⟩ : ∃ j : Nat, r4 = (j : Int) := ⟨r4.toNat, by omega⟩
          have jl : j < (n0 :: nt).length := by omega
          have ej := List.getElem?_eq_getElem jl
          obtain ⟨y, ey⟩ := hns _ (List.getElem_mem jl)
          refine ⟨D, _, _, _, rfl, rfl, SqL.of (d4 _ _ nD hd3), atI_nat (by rw [List.getElem?_map, ej]; rfl), q [] _ 0 H4 (.inl rfl) ⟨y, by rw [List.append_nil]; exact ey⟩ (.one ((SameBut.of (s1.trans s2)).trans (d3.trans d4))) (w4.mono (by omega)) ?_⟩
          obtain ⟨gx, hgx⟩ := w3.lst
          obtain ⟨gx2, hgx2⟩ := (w1.same s2).lst
          rw [List.append_nil]
          exact ⟨rv, d4 _ _ nl (d3 _ _ nl (s2 _ _ l1)), ((ht.same (s1.trans s2)).but d3 hgx2).but d4 hgx⟩
      obtain ⟨rfl, sb, w2⟩ := hM
      obtain ⟨gx0, hgx0⟩ := hw.lst
      have hv2 := sb _ _ nl hl
      have ht2 := ht.but sb hgx0
      clear s1 ns hd ln hns w1 l1 nD hD
      refine ⟨_, rfl, .inl ⟨rfl, _, SqL.of hv2⟩, _, rfl, _, rfl, _, rfl, l, _, rfl, .inl (SqL.of hv2), _, _, rfl, rfl, _, rfl, _, rfl, l, _, rfl, .inl (SqL.of hv2), a, c + 1, _, rfl, w2, by omega, by omega, Nat.lt_of_le_of_lt (show _ ≤ 1000 by omega) (by decide +kernel), fun r3 H3 r30 r31 d3 e3 w3 => ?_⟩
      obtain ⟨x3, rfl⟩ : ∃ n : Nat, r3 = (n : Int) := ⟨r3.toNat, by omega⟩
      obtain ⟨gx2, hgx2⟩ := w2.lst
      have hv3 := d3 _ _ nl hv2
      have ht3 := ht2.but d3 hgx2
      refine ⟨(by show 3 ≤ sizeLine; decide), fun l4 hl4 => ?_⟩
      generalize hG4 : upd _ l4 _ = G4
      obtain ⟨s4, h_l4⟩ := upd_gen hG4 hl4
      have w4 := w3.same s4
      have n4 := w3.ne hl4
      obtain ⟨gx4, hgx4⟩ := w4.lst
      refine ⟨_, rfl, a, c + 1 + 1, 3, rfl, w4, by omega, by decide, by decide +kernel, fun r5 H5 r50 r51 d5 e5 w5 => ?_⟩
      have hv5 := d5 _ _ nl (s4 _ _ hv3)
      have ht5 := (ht3.same s4).but d5 hgx4
      obtain ⟨v, i3, o3⟩ := threeI (x := V.int last) (y := V.int ((rv.length : Int) - 1)) (z := V.int x3) r50 r51
      obtain ⟨x, rfl, xl⟩ : ∃ x : Nat, v = .int (x : Int) ∧ x < rows.length := by
        rcases o3 with rfl | rfl | rfl
        · exact ⟨_, rfl, la⟩
        · exact ⟨rv.length - 1, by congr 1; omega, by omega⟩
        · exact ⟨_, rfl, by omega⟩
      refine ⟨l4, _, r5, _, rfl, rfl, SqL.of (d5 _ _ n4 h_l4), i3, (by show 3 ≤ sizeLine; decide), fun p hp => ?_⟩
      generalize hG7 : upd _ p _ = G7
      obtain ⟨s7, h_p7⟩ := upd_gen hG7 hp
      have hv7 := s7 _ _ hv5
      refine ⟨l, _, _, rfl, rfl, hv7, sl_lt (by omega), ?_⟩
      have t8 := TL7.push (r := .keep kd x) hv7 (ht5.same s7) h_p7
      generalize hG8 : upd _ l _ = G8 at t8
      obtain ⟨s8, _⟩ := upd_but hG8
      obtain ⟨vs8, hv8, ht8⟩ := t8
      have lv8 := ht8.rlen
      rw [List.length_append, List.length_singleton] at lv8
      refine ⟨_, rfl, l, _, rfl, .inl (SqL.of hv8), _, _, rfl, rfl, ?_⟩
      have e : (vs8.length : Int) - 1 = ((rows.length : Nat) : Int) := by omega
      dsimp only
      rw [e]
      refine q [.keep kd x] rows.length x G8 (.inr ⟨rfl, xl⟩) ⟨x, ?_⟩ (((SameBut2.one (sb.trans (d3.trans ((SameBut.of s4).trans (d5.trans (.of s7))))))).trans (.two s8)) (((w5.same s7).but s8 nl.symm).mono (by omega)) ⟨vs8, hv8, ht8⟩
      rw [List.getElem?_append_right (Nat.le_refl _), Nat.sub_self]
      rfl
end
end E1

namespace E1
open PySem PySem.Spec PyProof.Rows L2
/-! ### how far the points of a net go -/
structure Bd (en : Int) (hp fp : List Int) (W : Int) : Prop where
  w0 : 0 ≤ W
  en : -W ≤ en ∧ en ≤ W
  hp : ∀ x ∈ hp, -W ≤ x ∧ x ≤ W
  fp : ∀ x ∈ fp, -W ≤ x ∧ x ≤ W
theorem getD_bd {l : List Int} {k : Nat} {W : Int} (h : ∀ x ∈ l, -W ≤ x ∧ x ≤ W) (w : 0 ≤ W) : -W ≤ l.getD k 0 ∧ l.getD k 0 ≤ W := by
  by_cases c : k < l.length
  · refine h _ ?_
    rw [List.getD_eq_getElem?_getD, List.getElem?_eq_getElem c]
    exact List.getElem_mem _
  · rw [List.getD_eq_getElem?_getD, List.getElem?_eq_none (by omega)]
    show -W ≤ 0 ∧ (0 : Int) ≤ W
    omega
structure RowsG (hc fc : Nat) (en : Int) (hp fp : List Int) (rows : List Row) (B : Int) : Prop where
  ok : ∀ i r, rows[i]? = some r → RowOk hc fc i r
  pb : ∀ p ∈ ptsOf en hp fp rows, -B ≤ p ∧ p ≤ B
theorem row_get {rows : List Row} {r r' : Row} {i : Nat} (h : (rows ++ [r'])[i]? = some r) : rows[i]? = some r ∨ (i = rows.length ∧ r = r') := by
  have := snoc_at (rows := rows) (ex := []) (r := r) (r' := r') (i := i) (by rw [List.nil_append]; exact h)
  rw [List.append_nil] at this
  exact this
section
variable {hc fc : Nat} {en : Int} {hp fp : List Int} {W R B B' M : Int}
theorem RowsG.mono {rows : List Row} (g : RowsG hc fc en hp fp rows B) (l : B ≤ B') : RowsG hc fc en hp fp rows B' :=
  ⟨g.ok, fun p h => by have := g.pb p h; omega⟩
theorem rowPt_bd {pts : List Int} (b : Bd en hp fp W) (wb : W ≤ B) (r0 : 0 ≤ R) (hpb : ∀ p ∈ pts, -B ≤ p ∧ p ≤ B) (r : Row) (by_ : r.by_ R) : -(B + R) ≤ rowPt en hp fp pts r ∧ rowPt en hp fp pts r ≤ B + R := by
  have w0 := b.w0
  have P : ∀ k, -B ≤ pts.getD k 0 ∧ pts.getD k 0 ≤ B := fun k => getD_bd hpb (by omega)
  have Hq : ∀ k, -W ≤ hp.getD k 0 ∧ hp.getD k 0 ≤ W := fun k => getD_bd b.hp w0
  have Fq : ∀ k, -W ≤ fp.getD k 0 ∧ fp.getD k 0 ≤ W := fun k => getD_bd b.fp w0
  cases r with
  | inn =>
    have := b.en
    show -(B + R) ≤ en ∧ en ≤ B + R
    omega
  | old k =>
    have := Hq k
    show -(B + R) ≤ hp.getD k 0 ∧ hp.getD k 0 ≤ B + R
    omega
  | times f m a =>
    have := P a
    have h : (m : Int) ≤ R := by_
    show -(B + R) ≤ pts.getD a 0 + m ∧ pts.getD a 0 + m ≤ B + R
    omega
  | plus x y =>
    have := P x
    have := P y
    show -(B + R) ≤ (if pts.getD y 0 > pts.getD x 0 then pts.getD y 0 else pts.getD x 0) ∧ (if pts.getD y 0 > pts.getD x 0 then pts.getD y 0 else pts.getD x 0) ≤ B + R
    split <;> omega
  | less x y =>
    have := P x
    have := P y
    show -(B + R) ≤ (if pts.getD y 0 > pts.getD x 0 then pts.getD y 0 else pts.getD x 0) ∧ (if pts.getD y 0 > pts.getD x 0 then pts.getD y 0 else pts.getD x 0) ≤ B + R
    split <;> omega
  | move m a =>
    have := P a
    obtain ⟨h1, h2⟩ : -R ≤ m ∧ m ≤ R := by_
    show -(B + R) ≤ pts.getD a 0 - m ∧ pts.getD a 0 - m ≤ B + R
    omega
  | keep f a =>
    have := Fq f
    show -(B + R) ≤ fp.getD f 0 ∧ fp.getD f 0 ≤ B + R
    omega
theorem RowsG.snoc {rows : List Row} {r : Row} (g : RowsG hc fc en hp fp rows B) (b : Bd en hp fp W) (wb : W ≤ B) (r0 : 0 ≤ R) (ok : RowOk hc fc rows.length r) (by_ : r.by_ R) : RowsG hc fc en hp fp (rows ++ [r]) (B + R) := by
  refine ⟨fun i x h => ?_, fun p h => ?_⟩
  · rcases row_get h with h | ⟨rfl, rfl⟩
    · exact g.ok i x h
    · exact ok
  · rw [ptsOf_snoc] at h
    rcases List.mem_append.mp h with h | h
    · have := g.pb p h
      omega
    · rw [List.mem_singleton.mp h]
      exact rowPt_bd b wb r0 g.pb r by_
theorem RowsG.keep {rows : List Row} {kd x : Nat} (g : RowsG hc fc en hp fp rows B) (b : Bd en hp fp W) (wb : W ≤ B) (hk : kd < fc) (hx : x < rows.length) : RowsG hc fc en hp fp (rows ++ [.keep kd x]) B := by
  have := g.snoc (r := .keep kd x) (R := 0) b wb (Int.le_refl _) ⟨hk, hx⟩ trivial
  exact this.mono (by omega)
theorem RowsG.begin {rows : List Row} (b : Bd en hp fp W) (h : ∀ r ∈ rows, BegOk hc r) : RowsG hc fc en hp fp rows W := by
  refine ⟨fun i r e => ?_, fun p hpm => ?_⟩
  · have := h r (List.mem_of_getElem? e)
    cases r with
    | inn => trivial
    | old k => exact this
    | _ => exact this.elim
  · obtain ⟨i, hi, rfl⟩ := List.getElem_of_mem hpm
    have hl : i < rows.length := by rw [ptsOf_len] at hi; exact hi
    have e := List.getElem?_eq_getElem hl
    have e2 := accL_at (g := rowPt en hp fp) e
    rw [← ptsOf_acc, List.getElem?_eq_getElem hi] at e2
    rw [Option.some.inj e2]
    have := h _ (List.getElem_mem hl)
    generalize rows[i] = r at *
    cases r with
    | inn => exact b.en
    | old k => exact getD_bd b.hp b.w0
    | _ => exact this.elim
theorem getD_pre {l t : List Int} {k : Nat} (h : k < l.length) : (l ++ t).getD k 0 = l.getD k 0 := by
  rw [List.getD_eq_getElem?_getD, List.getD_eq_getElem?_getD, List.getElem?_append_left h]
theorem mix_pb {rows : List Row} (m0 : 0 ≤ M) (b : Bd en hp fp W) (hb : ∀ p ∈ ptsOf en hp fp rows, -W ≤ p ∧ p ≤ W) : ∀ (n : Nat) (ex : List Row), ex.length = n → (∀ r ∈ ex, MixRow rows.length M r) → ∀ p ∈ ptsOf en hp fp (rows ++ ex), -(W + M) ≤ p ∧ p ≤ W + M := by
  have w0 := b.w0
  intro n
  induction n with
  | zero =>
    intro ex le _ p h
    rw [List.length_eq_zero_iff.mp le, List.append_nil] at h
    have := hb p h
    omega
  | succ n ih =>
    intro ex le hm p h
    obtain ⟨ex', r, rfl⟩ : ∃ ex' r, ex = ex' ++ [r] := by
      have hne : ex ≠ [] := fun z => by rw [z] at le; cases le
      exact ⟨_, _, (List.dropLast_concat_getLast hne).symm⟩
    have le' : ex'.length = n := by rw [List.length_append, List.length_singleton] at le; omega
    have ih' := ih ex' le' fun x hx => hm x (List.mem_append.mpr (.inl hx))
    rw [← List.append_assoc, ptsOf_snoc] at h
    rcases List.mem_append.mp h with h | h
    · exact ih' p h
    · rw [List.mem_singleton.mp h]
      have P : ∀ k, -(W + M) ≤ (ptsOf en hp fp (rows ++ ex')).getD k 0 ∧ (ptsOf en hp fp (rows ++ ex')).getD k 0 ≤ W + M := fun k => getD_bd ih' (by omega)
      have hr := hm r (List.mem_append.mpr (.inr (List.mem_singleton.mpr rfl)))
      cases r with
      | times f m a =>
        obtain ⟨h1, h2, _⟩ := hr
        show -(W + M) ≤ (ptsOf en hp fp (rows ++ ex')).getD a 0 + m ∧ (ptsOf en hp fp (rows ++ ex')).getD a 0 + m ≤ W + M
        obtain ⟨t, et⟩ := accL_pre (rowPt en hp fp) rows ex'
        rw [← ptsOf_acc, ← ptsOf_acc] at et
        rw [et, getD_pre (by rw [ptsOf_len]; exact h1)]
        have := getD_bd (k := a) hb w0
        omega
      | plus x y =>
        have := P x
        have := P y
        show -(W + M) ≤ (if (ptsOf en hp fp (rows ++ ex')).getD y 0 > (ptsOf en hp fp (rows ++ ex')).getD x 0 then (ptsOf en hp fp (rows ++ ex')).getD y 0 else (ptsOf en hp fp (rows ++ ex')).getD x 0) ∧ (if (ptsOf en hp fp (rows ++ ex')).getD y 0 > (ptsOf en hp fp (rows ++ ex')).getD x 0 then (ptsOf en hp fp (rows ++ ex')).getD y 0 else (ptsOf en hp fp (rows ++ ex')).getD x 0) ≤ W + M
        split <;> omega
      | less x y =>
        have := P x
        have := P y
        show -(W + M) ≤ (if (ptsOf en hp fp (rows ++ ex')).getD y 0 > (ptsOf en hp fp (rows ++ ex')).getD x 0 then (ptsOf en hp fp (rows ++ ex')).getD y 0 else (ptsOf en hp fp (rows ++ ex')).getD x 0) ∧ (if (ptsOf en hp fp (rows ++ ex')).getD y 0 > (ptsOf en hp fp (rows ++ ex')).getD x 0 then (ptsOf en hp fp (rows ++ ex')).getD y 0 else (ptsOf en hp fp (rows ++ ex')).getD x 0) ≤ W + M
        split <;> omega
      | inn => exact hr.elim
      | old k => exact hr.elim
      | move m a => exact hr.elim
      | keep f a => exact hr.elim
theorem RowsG.mix {rows ex : List Row} (m0 : 0 ≤ M) (b : Bd en hp fp W) (g : RowsG hc fc en hp fp rows W) (hm : ∀ r ∈ ex, MixRow rows.length M r) (ho : ∀ i r, (rows ++ ex)[i]? = some r → rows.length ≤ i → ∀ hc fc, RowOk hc fc i r) : RowsG hc fc en hp fp (rows ++ ex) (W + M) := by
  refine ⟨fun i r e => ?_, mix_pb m0 b g.pb _ ex rfl hm⟩
  by_cases c : i < rows.length
  · rw [List.getElem?_append_left c] at e
    exact g.ok i r e
  · exact ho i r e (by omega) _ _
end
/-! ### the heap of a law's net -/
theorem TsAt.but2 {H H' : Hp} {a l : Addr} {xs ys vs : List V} {xss : List (List V)} (h : TsAt H vs xss) (s : SameBut2 a l H H') (ha : H a = some (.lst xs)) (hl : H l = some (.lst ys)) : TsAt H' vs xss :=
  h.mono fun _ _ e => s _ _ (ne_of e ha (fun z => nomatch z)) (ne_of e hl (fun z => nomatch z)) e
theorem TL7.but2 {H H' : Hp} {a l b : Addr} {xs ys : List V} {xss : List (List V)} (h : TL7 H b xss) (s : SameBut2 a l H H') (ha : H a = some (.lst xs)) (hl : H l = some (.lst ys)) (n1 : b ≠ a) (n2 : b ≠ l) : TL7 H' b xss := by
  obtain ⟨vs, e, t⟩ := h
  exact ⟨vs, s _ _ n1 n2 e, t.but2 s ha hl⟩
def nI (n : Nat) : V := .int (n : Int)
structure NB (H G : Hp) (a kl fl ml : Addr) (ks : List Nat) (fs : List FormP) (rows : List Row) (c : Int) : Prop where
  sb : SameBut a H G
  w : WellAt G a c
  k : G kl = some (.lst (ks.map nI))
  f : TL7 G fl (fs.map FormP.vs)
  m : TL7 G ml (rows.map Row.vs)
  n1 : kl ≠ a
  n2 : fl ≠ a
  n3 : ml ≠ a
  n4 : kl ≠ ml
  n5 : fl ≠ ml
  f0 : H ml = none
section
variable {H G G' : Hp} {a kl fl ml : Addr} {ks : List Nat} {fs : List FormP} {rows rows' : List Row} {c c' : Int}
theorem NB.one (b : NB H G a kl fl ml ks fs rows c) (s : SameBut a G G') (w : WellAt G' a c') : NB H G' a kl fl ml ks fs rows c' := by
  obtain ⟨xs, hx⟩ := b.w.lst
  exact ⟨b.sb.trans s, w, s _ _ b.n1 b.k, b.f.but s hx b.n2, b.m.but s hx b.n3, b.n1, b.n2, b.n3, b.n4, b.n5, b.f0⟩
theorem NB.new (b : NB H G a kl fl ml ks fs rows c) (s : Same G G') : NB H G' a kl fl ml ks fs rows c := b.one (.of s) (b.w.same s)
theorem NB.mono (b : NB H G a kl fl ml ks fs rows c) (l : c ≤ c') : NB H G a kl fl ml ks fs rows c' := ⟨b.sb, b.w.mono l, b.k, b.f, b.m, b.n1, b.n2, b.n3, b.n4, b.n5, b.f0⟩
theorem NB.two (b : NB H G a kl fl ml ks fs rows c) (s : SameBut2 a ml G G') (w : WellAt G' a c') (m : TL7 G' ml (rows'.map Row.vs)) : NB H G' a kl fl ml ks fs rows' c' := by
  obtain ⟨xs, hx⟩ := b.w.lst
  obtain ⟨ys, hy, _⟩ := b.m
  refine ⟨fun x o n e => s x o n (fun z => ?_) (b.sb x o n e), w, s _ _ b.n1 b.n4 b.k, b.f.but2 s hx hy b.n2 b.n5, m, b.n1, b.n2, b.n3, b.n4, b.n5, b.f0⟩
  have := b.f0
  rw [← z, e] at this
  cases this
theorem NB.but {x : Addr} {ys : List V} (b : NB H G a kl fl ml ks fs rows c) (s : SameBut x G G') (hx : G x = some (.lst ys)) (h0 : H x = none) (m1 : a ≠ x) (m2 : kl ≠ x) (m3 : fl ≠ x) (m4 : ml ≠ x) : NB H G' a kl fl ml ks fs rows c := by
  refine ⟨fun y o n e => s y o (fun z => ?_) (b.sb y o n e), b.w.but s m1, s _ _ m2 b.k, b.f.but s hx m3, b.m.but s hx m4, b.n1, b.n2, b.n3, b.n4, b.n5, b.f0⟩
  rw [z, h0] at e
  cases e
end
/-- the parts of a law's net -/
def PartsAt (H : Hp) (p : Addr) (n : NetP) : Prop := ∃ fa ra ha, H p = some (.tup [.ref fa, .int n.en, .ref ra, .ref ha, .int n.out]) ∧ TL7 H fa (n.fs.map FormP.vs) ∧ TL7 H ra (n.rows.map Row.vs) ∧ TL7 H ha (n.holds.map Hold.vs)
theorem PartsAt.same {H H' : Hp} {p : Addr} {n : NetP} (h : PartsAt H p n) (s : Same H H') : PartsAt H' p n := by
  obtain ⟨fa, ra, ha, e, x, y, z⟩ := h
  exact ⟨fa, ra, ha, s _ _ e, x.same s, y.same s, z.same s⟩
theorem PartsAt.but {H H' : Hp} {p a : Addr} {n : NetP} {ys : List V} (h : PartsAt H p n) (s : SameBut a H H') (ha : H a = some (.lst ys)) (n1 : ∀ fa ra hb, H p = some (.tup [.ref fa, .int n.en, .ref ra, .ref hb, .int n.out]) → fa ≠ a ∧ ra ≠ a ∧ hb ≠ a) : PartsAt H' p n := by
  obtain ⟨fa, ra, hb, e, x, y, z⟩ := h
  obtain ⟨m1, m2, m3⟩ := n1 fa ra hb e
  exact ⟨fa, ra, hb, s _ _ (ne_of e ha (fun z => nomatch z)) e, x.but s ha m1, y.but s ha m2, z.but s ha m3⟩
def HoldOk (fs : List FormP) (rows : List Row) (h : Hold) : Prop := h.k < fs.length ∧ inR (frm fs h.k).w h.s = true ∧ h.s.natAbs < 2 ^ 70 ∧ ∃ x, rows[h.l]? = some (.keep h.k x)
theorem HoldOk.more {fs : List FormP} {rows t : List Row} {h : Hold} (k : HoldOk fs rows h) : HoldOk fs (rows ++ t) h := by
  obtain ⟨a, b, c, x, e⟩ := k
  refine ⟨a, b, c, x, ?_⟩
  rw [List.getElem?_append_left (List.getElem?_eq_some_iff.mp e).1]
  exact e
def spLNet : Sp := fun vs H Q _ => ∃ a : Addr, vs = [.ref a] ∧ WellAt H a 3 ∧ ∀ (n : NetP) (p : Addr) (H' : Hp), NetOk n → (∀ h ∈ n.holds, h.s.natAbs < 2 ^ 70) → Mild n → n.rows.length ≤ 26 → WellAt H' a 300 → SameBut a H H' → H p = none → (∀ G, SameBut a H' G → PartsAt G p n) → Q (.ref p) H'
theorem sixR {r : Int} (h0 : 0 ≤ r) (h1 : r < 6) : ∃ R : Int, atI [V.int 5, V.int 5, V.int 20, V.int 20, V.int 20, V.int 60] r = some (.int R) ∧ 5 ≤ R ∧ R ≤ 60 ∧ (r ≠ 5 → R ≤ 20) ∧ (r < 2 → R ≤ 5) := by
  rcases (by omega : r = 0 ∨ r = 1 ∨ r = 2 ∨ r = 3 ∨ r = 4 ∨ r = 5) with rfl | rfl | rfl | rfl | rfl | rfl
  · exact ⟨5, rfl, by omega, by omega, fun _ => by omega, fun _ => by omega⟩
  · exact ⟨5, rfl, by omega, by omega, fun _ => by omega, fun _ => by omega⟩
  · exact ⟨20, rfl, by omega, by omega, fun _ => by omega, fun z => absurd z (by decide)⟩
  · exact ⟨20, rfl, by omega, by omega, fun _ => by omega, fun z => absurd z (by decide)⟩
  · exact ⟨20, rfl, by omega, by omega, fun _ => by omega, fun z => absurd z (by decide)⟩
  · exact ⟨60, rfl, by omega, by omega, (fun z => absurd rfl z), fun z => absurd z (by decide)⟩
/-- so many rows of chance -/
theorem pickN {x y so : Int} (A B : Int) (x0 : 0 ≤ x) (x1 : x < A) (y0 : 0 ≤ y) (y1 : y < B) : ∃ n : Nat, atI [V.int x, V.int y] (if decide (V.int so = V.int 5) = true then 1 else 0) = some (.int (n : Int)) ∧ (so = 5 → (n : Int) < B) ∧ (so ≠ 5 → (n : Int) < A) := by
  by_cases h : so = 5
  · refine ⟨y.toNat, ?_, fun _ => by omega, fun z => absurd h z⟩
    rw [h, decide_eq_true rfl, show ((y.toNat : Nat) : Int) = y by omega]
    exact a1
  · refine ⟨x.toNat, ?_, fun z => absurd z h, fun _ => by omega⟩
    rw [decide_eq_false (fun z => h (V.int.inj z)), show ((x.toNat : Nat) : Int) = x by omega]
    exact a0

theorem beg_small {hc : Nat} {rows : List Row} (h : ∀ r ∈ rows, BegOk hc r) : ∀ r ∈ rows, r.small := fun r hr => by
  have := h r hr
  cases r <;> first | trivial | exact this.elim
theorem mix_small {n0 : Nat} {M : Int} {ex : List Row} (h : ∀ r ∈ ex, MixRow n0 M r) : ∀ r ∈ ex, r.small := fun r hr => by
  have := h r hr
  cases r <;> first | trivial | exact this.elim | exact this.2.2
theorem app_small {a b : List Row} (ha : ∀ r ∈ a, r.small) (hb : ∀ r ∈ b, r.small) : ∀ r ∈ a ++ b, r.small := fun r hr => by
  rcases List.mem_append.mp hr with h | h
  · exact ha r h
  · exact hb r h
theorem one_small {r : Row} (h : r.small) : ∀ x ∈ [r], x.small := fun x hx => by
  rw [List.mem_singleton.mp hx]
  exact h
end E1

namespace E1
open PySem PySem.Spec PyProof.Rows L2
section
variable {P : Program} {w : World} {K : PySem.W.Frag} {mg : Str → Option Value} {base : Heap}
theorem sc__law_net : FnScope ["_law_well_here", "_law_sort", "_law_count", "_law_first", "_law_k", "_law_kinds", "_law_reach", "_law_shapes", "_law_made_here", "_law_last", "_law_links", "_law_kind", "_law_start"] ["_law_well_here"] (defScope s__law_net) := ⟨rfl, rfl, rfl, by decide +kernel, rfl, by decide +kernel, by decide +kernel⟩
theorem ok__law_net {f : Addr} {fd : FuncData} (F : Fun K "_law_net" "_law_net" s__law_net f fd) (z : Zs mg) (c__law_draw : Cal P w K mg base 1 "_law_draw" ["_law_well_here", "_law_many"] spDraw) (c__law_form : Cal P w K mg base 2 "_law_form" ["_law_well_here", "_law_free", "_law_reach"] spLForm) (c__law_word : Cal P w K mg base 2 "_law_word" ["_law_well_here", "_law_form_here"] spLWord) (c__law_row : Cal P w K mg base 2 "_law_row" ["_law_well_here", "_law_count", "_law_at", "_law_free", "_law_reach", "_law_held"] spLRow) (c__law_begin : Cal P w K mg base 2 "_law_begin" ["_law_well_here", "_law_held"] spLBegin) (c__law_mixed : Cal P w K mg base 2 "_law_mixed" ["_law_well_here", "_law_made_here", "_law_reach"] spLMixed) (c__law_link : Cal P w K mg base 2 "_law_link" ["_law_well_here", "_law_made_here", "_law_kind", "_law_last"] (spLLink K)) : FnOk P w K mg base CX0 3 f fd ["_law_well_here"] spLNet := by
  refine F.ok sc__law_net (fun vs H Q E h => ?_) (fun cdv A outer s H vs Q E hr h => ?_)
  · obtain ⟨a, rfl, _⟩ := h
    rfl
  · obtain ⟨a, rfl, hw, q⟩ := h
    refine ⟨_, (pss_cons (ps_set (i := 1) sc__law_net.nd rfl (.inr rfl) (pe_cal c__law_draw hr (pa_cons (pv 0) (pa_cons pe_int pa_nil))))
      (pss_cons (ps_set (i := 2) sc__law_net.nd rfl (.inr rfl) (pe_op op_add pe_int (pe_cal c__law_draw hr (pa_cons (pv 0) (pa_cons pe_int pa_nil)))))
      (pss_cons (ps_set (i := 3) sc__law_net.nd rfl (.inl rfl) (pe_cal c__law_draw hr (pa_cons (pv 0) (pa_cons (pv 2) pa_nil))))
      (pss_cons (ps_setLc (i := 5) (own := [("_law_k", 4)]) (g := gName 4) (tt := tYes) (te := (tCall spDraw [] E0 (tCons (tVar 0) (tCons (tVar 2) tNil)))) (by rfl) sc__law_net.nd rfl rfl (sw_true rfl rfl rfl (by decide +kernel)) (pi_range1 (by rfl) z.range (pa_cons (pe_cal c__law_draw hr (pa_cons (pv 0) (pa_cons pe_int pa_nil))) pa_nil)) (blkOk_by (own := [("_law_k", 4)]) (N := ["_law_well_here", "_law_sort", "_law_count", "_law_first", "_law_k", "_law_kinds", "_law_reach", "_law_shapes", "_law_made_here", "_law_last", "_law_links", "_law_kind", "_law_start"]) (sc := defScope s__law_net) (by decide +kernel)) (fun _ _ _ _ _ => by exact (pg_name (i := 4) sc__law_net.nd rfl (.inl rfl))) (fun _ _ _ _ _ => by exact pts_nil) (fun _ _ _ _ _ => by exact (pe_cal c__law_draw hr (pa_cons (pv 0) (pa_cons (pv 2) pa_nil)))))
      (pss_cons (ps_set (i := 6) sc__law_net.nd rfl (.inr rfl) (pe_ix ix_list (pe_lst (pa_cons pe_int (pa_cons pe_int (pa_cons pe_int (pa_cons pe_int (pa_cons pe_int (pa_cons pe_int pa_nil))))))) (pv 1) (fun _ _ => rfl)))
      (pss_cons (ps_setLc (i := 7) (own := [("_law_k", 4)]) (g := gName 4) (tt := tYes) (te := (tCall spLForm [] E0 (tCons (tVar 0) (tCons (tOp (rI0 fun i j => V.bl (decide (i < j))) (tVar 1) (tC (.int 2))) (tCons (tVar 6) tNil))))) (by rfl) sc__law_net.nd rfl rfl (sw_true rfl rfl rfl (by decide +kernel)) (pi_range1 (by rfl) z.range (pa_cons (pv 2) pa_nil)) (blkOk_by (own := [("_law_k", 4)]) (N := ["_law_well_here", "_law_sort", "_law_count", "_law_first", "_law_k", "_law_kinds", "_law_reach", "_law_shapes", "_law_made_here", "_law_last", "_law_links", "_law_kind", "_law_start"]) (sc := defScope s__law_net) (by decide +kernel)) (fun _ _ _ _ _ => by exact (pg_name (i := 4) sc__law_net.nd rfl (.inl rfl))) (fun _ _ _ _ _ => by exact pts_nil) (fun _ _ _ _ _ => by exact (pe_cal c__law_form hr (pa_cons (pv 0) (pa_cons (pe_cmpR op_lt (pv 1) pe_int (nomark _)) (pa_cons (pv 6) pa_nil))))))
      (C8.pss_cut (ps_if (PW.pt (pw_and (pt_cmpR op_gt (pv 2) pe_int (nomark _)) (pw_and1 (pt_cmpR op_eq (pe_cal c__law_draw hr (pa_cons (pv 0) (pa_cons pe_int pa_nil))) pe_int (nomark _))))) (pss_one (ps_asg (pe_ix ix_list (pv 7) pe_int (fun _ _ => rfl)) (pg_sub (pv 7) pe_int set_list))) pss_nil)
      (pss_cons (ps_set (i := 8) sc__law_net.nd rfl (.inl rfl) (pe_cal c__law_begin hr (pa_cons (pv 0) (pa_cons (pe_callB call_len_seq (by rfl) z.len PySem.boot_len (pa_cons (pv 5) pa_nil)) pa_nil))))
      (pss_cons (ps_set (i := 9) sc__law_net.nd rfl (.inl rfl) (pe_op op_sub (pe_callB call_len_seq (by rfl) z.len PySem.boot_len (pa_cons (pv 8) pa_nil)) pe_int))
      (C8.pss_cut (ps_if (pt_cmpR op_gt (pe_cal c__law_draw hr (pa_cons (pv 0) (pa_cons pe_int pa_nil))) pe_int (nomark _)) (pss_one (ps_set (i := 9) sc__law_net.nd rfl (.inl rfl) (pe_cal c__law_mixed hr (pa_cons (pv 0) (pa_cons (pv 8) (pa_cons (pe_callB (call_min2 rfl) (by rfl) z.min (by decide +kernel) (pa_cons (pv 6) (pa_cons pe_int pa_nil))) pa_nil)))))) pss_nil)
      (pss_cons (ps_for PassesOwn.never rfl (pi_range1 (by rfl) z.range (pa_cons (pe_ix ix_list (pe_lst (pa_cons (pe_cal c__law_draw hr (pa_cons (pv 0) (pa_cons pe_int pa_nil))) (pa_cons (pe_cal c__law_draw hr (pa_cons (pv 0) (pa_cons pe_int pa_nil))) pa_nil))) (pe_callTy call_int1 (by rfl) z.int (by decide +kernel) (pa_cons (pe_cmpR op_eq (pv 1) pe_int (nomark _)) pa_nil)) (fun _ _ => rfl)) pa_nil)) (pg_name (i := 4) sc__law_net.nd rfl (.inl rfl)) (pss_one (ps_expr (pe_bm PySem.F.plainAttrs_list PySem.F.slot_list_append PySem.F.type_list_append mt_append (pv 8) (pa_cons (pe_cal c__law_row hr (pa_cons (pv 0) (pa_cons (pv 2) (pa_cons (pe_callB call_len_seq (by rfl) z.len PySem.boot_len (pa_cons (pv 8) pa_nil)) (pa_cons (pe_cmpR op_lt (pv 1) pe_int (nomark _)) (pa_cons (pv 6) (pa_cons (pe_callB call_len_seq (by rfl) z.len PySem.boot_len (pa_cons (pv 5) pa_nil)) pa_nil))))))) pa_nil)))))
      (pss_cons (ps_set (i := 10) sc__law_net.nd rfl (.inl rfl) (pe_lst pa_nil))
      (pss_cons (ps_for PassesOwn.never rfl (pi_list (pv 5)) (pg_name (i := 11) sc__law_net.nd rfl (.inl rfl)) (pss_cons (ps_set (i := 12) sc__law_net.nd rfl (.inl rfl) (pe_cal c__law_word hr (pa_cons (pv 0) (pa_cons (pe_ix ix_list (pv 7) (pv 11) (fun _ _ => rfl)) pa_nil))))
      (pss_one (ps_expr (pe_bm PySem.F.plainAttrs_list PySem.F.slot_list_append PySem.F.type_list_append mt_append (pv 10) (pa_cons (pe_tup (pa_cons (pv 11) (pa_cons (pv 12) (pa_cons (pe_cal c__law_link hr (pa_cons (pv 0) (pa_cons (pv 8) (pa_cons (pv 11) (pa_cons (pv 9) pa_nil))))) pa_nil)))) pa_nil))))))
      (pss_cons (ps_for PassesOwn.never rfl (pi_range1 (by rfl) z.range (pa_cons (pe_ix ix_list (pe_lst (pa_cons (pe_cal c__law_draw hr (pa_cons (pv 0) (pa_cons pe_int pa_nil))) (pa_cons (pe_cal c__law_draw hr (pa_cons (pv 0) (pa_cons pe_int pa_nil))) pa_nil))) (pe_callTy call_int1 (by rfl) z.int (by decide +kernel) (pa_cons (pe_cmpR op_eq (pv 1) pe_int (nomark _)) pa_nil)) (fun _ _ => rfl)) pa_nil)) (pg_name (i := 4) sc__law_net.nd rfl (.inl rfl)) (pss_one (ps_expr (pe_bm PySem.F.plainAttrs_list PySem.F.slot_list_append PySem.F.type_list_append mt_append (pv 8) (pa_cons (pe_cal c__law_row hr (pa_cons (pv 0) (pa_cons (pv 2) (pa_cons (pe_callB call_len_seq (by rfl) z.len PySem.boot_len (pa_cons (pv 8) pa_nil)) (pa_cons (pe_cmpR op_lt (pv 1) pe_int (nomark _)) (pa_cons (pv 6) (pa_cons (pe_callB call_len_seq (by rfl) z.len PySem.boot_len (pa_cons (pv 5) pa_nil)) pa_nil))))))) pa_nil)))))
      (pss_one (ps_ret (pe_tup (pa_cons (pv 7) (pa_cons (pv 3) (pa_cons (pv 8) (pa_cons (pv 10) (pa_cons (pe_ix ix_list (pe_lst (pa_cons (pv 9) (pa_cons (pe_op op_sub (pe_callB call_len_seq (by rfl) z.len PySem.boot_len (pa_cons (pv 8) pa_nil)) pe_int) (pa_cons (pe_cal c__law_draw hr (pa_cons (pv 0) (pa_cons (pe_callB call_len_seq (by rfl) z.len PySem.boot_len (pa_cons (pv 8) pa_nil)) pa_nil))) pa_nil)))) (pe_cal c__law_draw hr (pa_cons (pv 0) (pa_cons pe_int pa_nil))) (fun _ _ => rfl)) pa_nil)))))))))))))))))))))), ?_⟩
    obtain ⟨wxs, hwx⟩ := hw.lst
    refine ⟨_, rfl, a, 3, 6, rfl, hw, by omega, by decide, by decide +kernel, fun r1 H1 r10 r11 d1 e1 w1 => ⟨_, rfl, a, 3 + 1, 3, rfl, w1, by omega, by decide, by decide +kernel, fun r2 H2 r20 r21 d2 e2 w2 => ⟨_, _, rfl, rfl, _, rfl, _, rfl, a, 3 + 1 + 1, 1 + r2, rfl, w2, by omega, by omega, Nat.lt_of_le_of_lt (show _ ≤ 1000 by omega) (by decide +kernel), fun r3 H3 r30 r31 d3 e3 w3 => ⟨_, rfl, a, 3 + 1 + 1 + 1, 4, rfl, w3, by omega, by decide, by decide +kernel, fun r4 H4 r40 r41 d4 e4 w4 => ⟨r4.toNat, by rw [Int.toNat_of_nonneg r40], by omega, by omega, fun kl hkl => ?_⟩⟩⟩⟩⟩
    have D4 : SameBut a H H4 := d1.trans (d2.trans (d3.trans d4))
    have nkl : kl ≠ a := w4.ne hkl
    have fkl : H kl = none := same_free D4 hwx hkl nkl
    obtain ⟨kn, ekn⟩ : ∃ n, r4.toNat = n := ⟨_, rfl⟩
    rw [ekn]
    have kn4 : kn ≤ 3 := by omega
    refine lc_it walk_range (fun i G => SameBut a H G ∧ WellAt G a (10 + i) ∧ ∃ ks : List Nat, G kl = some (.lst (ks.map nI)) ∧ ks.length = i ∧ ∀ k ∈ ks, (k : Int) < 1 + r2) ⟨D4.trans (.of (same_new hkl)), (w4.same (same_new hkl)).mono (by omega), [], upd_same, rfl, fun n x => nomatch x⟩ (fun _ _ _ _ => trivial) (fun i x G G' hi hP hY => ?_) (fun G hP => ?_)
    · obtain ⟨sb, wl, ks, hk, lk, hks⟩ := hP
      obtain ⟨rfl, rfl⟩ := hY
      refine ⟨rfl, _, rfl, _, rfl, a, 10 + i, 1 + r2, rfl, wl, by omega, by omega, Nat.lt_of_le_of_lt (show _ ≤ 1000 by omega) (by decide +kernel), fun r5 H5 r50 r51 d5 e5 w5 => ⟨_, d5 _ _ nkl hk, sl_lt (by rw [List.length_map]; omega), fun b o n e => ?_, (w5.but SameBut.upd nkl.symm).mono (by omega), ks ++ [r5.toNat], ?_, by rw [List.length_append, lk]; rfl, fun k hk2 => ?_⟩⟩
      · rw [upd_ne (ne_of_none e fkl)]
        exact d5 _ _ n (sb _ _ n e)
      · rw [upd_same, List.map_append]
        show some (HO.lst (ks.map nI ++ [V.int r5])) = some (.lst (ks.map nI ++ [V.int ((r5.toNat : Nat) : Int)]))
        rw [Int.toNat_of_nonneg r50]
      · rcases List.mem_append.mp hk2 with hk2 | hk2
        · exact hks k hk2
        · rw [List.mem_singleton.mp hk2]
          omega
    obtain ⟨sb, wl, ks, hk, lk, hks⟩ := hP
    clear D4 d1 d2 d3 d4 e1 e2 e3 e4 w1 w2 w3 w4
    refine ⟨(by show 6 ≤ sizeLine; decide), fun l6 hl6 => ?_⟩
    generalize hG6 : upd _ l6 _ = G6
    obtain ⟨s6, h_l6⟩ := upd_gen hG6 hl6
    obtain ⟨R, iR, R0, R1, R2, R3⟩ := sixR r10 r11
    refine ⟨_, rfl, l6, _, r1, _, rfl, rfl, SqL.of h_l6, iR, ?_⟩
    replace sb := sb.trans (.of s6)
    replace wl := wl.same s6
    replace hk := s6 _ _ hk
    refine ⟨_, rfl, (1 + r2).toNat, by rw [Int.toNat_of_nonneg (by omega)], by omega, by omega, fun fl hfl => ?_⟩
    have nfl : fl ≠ a := wl.ne hfl
    have ffl : H fl = none := same_free sb hwx hfl nfl
    have nkf : kl ≠ fl := ne_of_none hk hfl
    refine lc_it walk_range (fun i G => SameBut a H G ∧ WellAt G a (20 + 7 * i) ∧ G kl = some (.lst (ks.map nI)) ∧ ∃ (fv : List V) (fs : List FormP), G fl = some (.lst fv) ∧ TsAt G fv (fs.map FormP.vs) ∧ fs.length = i ∧ ∀ f ∈ fs, f.Ok ∧ (-R - 2 ≤ f.pt ∧ f.pt ≤ R + 2) ∧ (¬ r1 < 2 → f.w ≠ none)) ⟨sb.trans (.of (same_new hfl)), (wl.same (same_new hfl)).mono (by omega), same_new hfl _ _ hk, [], [], upd_same, .nil, rfl, fun n x => nomatch x⟩ (fun _ _ _ _ => trivial) (fun i x G2 G' hi hP hY => ?_) (fun G2 hP => ?_)
    · obtain ⟨sb, wl, hk, fv, fs, hf, tf, lf, hfo⟩ := hP
      obtain ⟨rfl, rfl⟩ := hY
      obtain ⟨gx, hgx⟩ := wl.lst
      have ltf := tf.len
      rw [List.length_map] at ltf
      refine ⟨rfl, _, rfl, _, rfl, _, _, rfl, rfl, _, rfl, a, _, R, 20 + 7 * i, rfl, by omega, by omega, wl, by omega, by omega, fun f p G3 fok fwn p0 p1 s2 w2 np hpn hp2 => ?_⟩
      have hf2 := s2 _ _ nfl hf
      refine ⟨_, hf2, sl_lt (by omega), fun b o n e => ?_, (w2.but SameBut.upd nfl.symm).mono (by omega), by rw [upd_ne nkf]; exact s2 _ _ nkl hk, fv ++ [.ref p], fs ++ [f], upd_same, ?_, by rw [List.length_append, lf]; rfl, fun x hx => ?_⟩
      · rw [upd_ne (ne_of_none e ffl)]
        exact s2 _ _ n (sb _ _ n e)
      · rw [List.map_append]
        exact TsAt.push hf2 (tf.but s2 hgx) hp2
      · rcases List.mem_append.mp hx with hx | hx
        · exact hfo x hx
        · rw [List.mem_singleton.mp hx]
          exact ⟨fok, ⟨p0, p1⟩, fun z => fwn (decide_eq_false z)⟩
    obtain ⟨sb2, wl2, hk2, fv, fs, hf, tf, lf, hfo⟩ := hP
    clear sb wl hk
    obtain ⟨fc, efc⟩ : ∃ n : Nat, 1 + r2 = (n : Int) := ⟨(1 + r2).toNat, by omega⟩
    obtain ⟨en, rfl⟩ : ∃ n : Nat, r3 = (n : Int) := ⟨r3.toNat, by omega⟩
    obtain ⟨so, eso⟩ : ∃ s : Int, s = r1 := ⟨_, rfl⟩
    have lf2 : fs.length = fc := by omega
    rw [← eso] at hfo
    have fc3 : fc ≤ 3 := by omega
    have fc1 : 1 ≤ fc := by omega
    have enl : en < fc := by omega
    replace hks : ∀ k ∈ ks, k < fc := fun k hx => by have := hks k hx; omega
    refine ⟨fun σ G => ∃ fs : List FormP, σ = [some (.ref a), some (.int so), some (.int (fc : Int)), some (.int (en : Int)), none, some (.ref kl), some (.int R), some (.ref fl), none, none, none, none, none] ∧ SameBut a H G ∧ WellAt G a 60 ∧ G kl = some (.lst (ks.map nI)) ∧ TL7 G fl (fs.map FormP.vs) ∧ fs.length = fc ∧ (∀ f ∈ fs, f.Ok ∧ (-R - 2 ≤ f.pt ∧ f.pt ≤ R + 2) ∧ (¬ so < 2 → f.w ≠ none)), ?_, fun σ G hM => ?_⟩
    · refine ⟨_, rfl, _, _, rfl, rfl, _, rfl, ite2 (fun gt => ?_) (fun _ => ⟨fs, by rw [← efc, eso]; rfl, sb2, wl2.mono (by omega), hk2, ⟨fv, hf, tf⟩, lf2, hfo⟩)⟩
      have gt2 : 1 + r2 > 1 := toB gt
      obtain ⟨gx, hgx⟩ := wl2.lst
      refine ⟨_, rfl, a, 20 + 7 * ((1 + r2).toNat : Nat), 4, rfl, wl2, by omega, by decide, by decide +kernel, fun r7 H7 r70 r71 d7 e7 w7 => ⟨rfl, _, rfl, ite2 (fun _ => ?_) (fun _ => ⟨fs, by rw [← efc, eso]; rfl, sb2.trans d7, w7.mono (by omega), d7 _ _ nkl hk2, ⟨fv, d7 _ _ nfl hf, tf.but d7 hgx⟩, lf2, hfo⟩)⟩⟩
      match fs, tf, lf2, hfo with
      | f0 :: f1 :: ft, .cons (p := p0) x0 (.cons (p := p1) (vs := fvt) x1 xt), lf2, hfo =>
        have hf7 := d7 _ _ nfl hf
        refine ⟨_, rfl, fl, _, 0, .ref p0, rfl, rfl, SqL.of hf7, a0, _, rfl, fl, _, 1, 1, rfl, rfl, hf7, ?_, f0 :: f0 :: ft, by rw [← efc, eso]; rfl, ?_, ?_, ?_, ⟨_, upd_same, ?_⟩, lf2, fun x hx => ?_⟩
        · show ixN (fvt.length + 1 + 1) 1 = some 1
          unfold ixN
          rw [if_pos (by decide), if_pos (by omega)]
          rfl
        · intro b o n e
          rw [upd_ne (ne_of_none e ffl)]
          exact d7 _ _ n (sb2 _ _ n e)
        · exact (w7.but SameBut.upd nfl.symm).mono (by omega)
        · rw [upd_ne nkf]
          exact d7 _ _ nkl hk2
        · have x0' := d7 _ _ (ne_of x0 hgx (fun z => nomatch z)) x0
          have TT := TsAt.cons x0' (.cons x0' (xt.but d7 hgx))
          exact TT.but SameBut.upd hf7
        · rcases List.mem_cons.mp hx with rfl | hx
          · exact hfo _ (List.mem_cons_self ..)
          · rcases List.mem_cons.mp hx with rfl | hx
            · exact hfo _ (List.mem_cons_self ..)
            · exact hfo x (List.mem_cons_of_mem _ (List.mem_cons_of_mem _ hx))
      | [f0], _, lf2, _ => exact absurd lf2 (by show ¬ (1 = fc); omega)
      | [], _, lf2, _ => exact absurd lf2 (by show ¬ (0 = fc); omega)
    have so0 : 0 ≤ so := by omega
    have so1 : so < 6 := by omega
    replace R2 : so ≠ 5 → R ≤ 20 := fun z => R2 (by omega)
    replace R3 : so < 2 → R ≤ 5 := fun z => R3 (by omega)
    clear sb2 wl2 hk2 hf tf lf hfo lf2 fv fs iR h_l6 hl6 s6 hG6 efc eso ekn hfl hkl
    obtain ⟨fs, rfl, sb, w0, hk, ⟨fv, hf, tf⟩, lf, hfo⟩ := hM
    obtain ⟨gx, hgx⟩ := w0.lst
    have lks : ks.length ≤ 3 := by omega
    refine ⟨_, rfl, _, rfl, kl, _, rfl, .inl (SqL.of hk), a, _, 60, rfl, by rw [List.length_map]; omega, w0, by omega, by omega, fun rows ml G2 hbg l1 l6 s2 w2 nml hml tml => ?_⟩
    rw [List.length_map] at hbg
    have b : NB H G2 a kl fl ml ks fs rows 80 := ⟨sb.trans s2, w2, s2 _ _ nkl hk, ⟨fv, s2 _ _ nfl hf, tf.but s2 hgx⟩, tml, nkl, nfl, nml, ne_of_none hk hml, ne_of_none hf hml, same_free sb hwx hml nml⟩
    have bd : Bd (fpt fs en) (ks.map (fpt fs)) (fs.map (·.pt)) (R + 2) := by
      have hf' : ∀ x ∈ fs.map (·.pt), -(R + 2) ≤ x ∧ x ≤ R + 2 := fun x hx => by
        obtain ⟨f, hfm, rfl⟩ := List.mem_map.mp hx
        have := (hfo f hfm).2.1
        omega
      exact ⟨by omega, getD_bd hf' (by omega), fun x hx => by
        obtain ⟨k, _, rfl⟩ := List.mem_map.mp hx
        exact getD_bd hf' (by omega), hf'⟩
    have g0 : RowsG ks.length fc (fpt fs en) (ks.map (fpt fs)) (fs.map (·.pt)) rows (R + 2) := RowsG.begin bd hbg
    have Rn : ∀ i : Nat, 0 ≤ R * (i : Int) := fun i => Int.mul_nonneg (by omega) (by omega)
    clear s2 w2 tml sb w0 hk hf tf hgx
    obtain ⟨mv, hmv, tmv⟩ := id b.m
    have lmv := tmv.rlen
    refine ⟨_, rfl, ml, _, rfl, .inl (SqL.of hmv), _, _, rfl, rfl, ?_⟩
    refine ⟨fun σ G => ∃ (rows : List Row) (last : Nat), σ = [some (.ref a), some (.int so), some (.int (fc : Int)), some (.int (en : Int)), none, some (.ref kl), some (.int R), some (.ref fl), some (.ref ml), some (.int (last : Int)), none, none, none] ∧ NB H G a kl fl ml ks fs rows 110 ∧ RowsG ks.length fc (fpt fs en) (ks.map (fpt fs)) (fs.map (·.pt)) rows (R + 8) ∧ last < rows.length ∧ rows.length ≤ 16 ∧ (∀ r ∈ rows, r.small), ?_, fun σ G hM => ?_⟩
    · have e : (mv.length : Int) - 1 = ((rows.length - 1 : Nat) : Int) := by omega
      refine ⟨_, rfl, a, 80, 3, rfl, b.w, by omega, by decide, by decide +kernel, fun r1 H1 r10 r11 d1 e1 w1 => ⟨_, _, rfl, rfl, _, rfl, ite2 (fun _ => ?_) (fun _ => ⟨rows, rows.length - 1, by rw [← e]; rfl, (b.one d1 w1).mono (by omega), g0.mono (by omega), by omega, by omega, beg_small hbg⟩)⟩⟩
      have b1 := b.one d1 w1
      refine ⟨_, rfl, _, rfl, _, rfl, _, _, rfl, a, ml, rows, if (6 : Int) < R then 6 else R, 80 + 1, rfl, b1.m, b1.n3, by split <;> omega, by split <;> omega, l1, l6, b1.w, by omega, by omega, fun ex last G3 hm ho hl le sb2 w2 tl => ?_⟩
      exact ⟨rows ++ ex, last, rfl, (b1.two sb2 w2 tl).mono (by omega), (RowsG.mix (by split <;> omega) bd g0 hm ho).mono (by split <;> omega), hl, by rw [List.length_append]; omega, app_small (beg_small hbg) (mix_small hm)⟩
    clear b g0 hmv tmv lmv mv hbg l1 l6 hml
    obtain ⟨rows1, last, rfl, b, RG1, hla, lr1, sm1⟩ := hM
    refine ⟨_, rfl, a, 110, 6, rfl, b.w, by omega, by decide, by decide +kernel, fun r51 H51 r510 r511 d51 e51 w51 => ⟨_, rfl, a, 110 + 1, 2, rfl, w51, by omega, by decide, by decide +kernel, fun r52 H52 r520 r521 d52 e52 w52 => ⟨(by show 2 ≤ sizeLine; decide), fun lx hlx => ?_⟩⟩⟩
    generalize hGx : upd _ lx _ = Gx1
    obtain ⟨sx1, h_lx⟩ := upd_gen hGx hlx
    obtain ⟨n1, in1, na1, nb1⟩ := pickN (so := so) 6 2 r510 r511 r520 r521
    have bx1 := ((b.one d51 w51).one d52 w52).new sx1
    refine ⟨_, rfl, rfl, .inr ⟨_, rfl, lx, _, _, .int (n1 : Int), rfl, rfl, SqL.of h_lx, in1, n1, rfl, by omega, by omega, ?_⟩⟩
    refine for_it walk_range (fun i σ G => ∃ (rows3 : List Row) (y4 : Option V), σ = [some (.ref a), some (.int so), some (.int (fc : Int)), some (.int (en : Int)), y4, some (.ref kl), some (.int R), some (.ref fl), some (.ref ml), some (.int (last : Int)), none, none, none] ∧ NB H G a kl fl ml ks fs rows3 (120 + 10 * i) ∧ RowsG ks.length fc (fpt fs en) (ks.map (fpt fs)) (fs.map (·.pt)) rows3 (R + 8 + R * i) ∧ rows3.length = rows1.length + i ∧ (∃ t, rows3 = rows1 ++ t) ∧ (so < 2 → ∀ r ∈ rows3, r.small)) ⟨rows1, none, rfl, bx1.mono (by omega), RG1.mono (by omega), rfl, ⟨[], (List.append_nil _).symm⟩, fun _ => sm1⟩ (fun _ _ _ _ _ => trivial) (fun i x σ G G' hi hP hY => ?_) (fun σ G hP => ?_)
    · obtain ⟨rows3, y4, rfl, b, rg, lr, ⟨t, et⟩, sm⟩ := hP
      obtain ⟨rfl, rfl⟩ := hY
      obtain ⟨mv, hmv, tmv⟩ := id b.m
      have lmv := tmv.rlen
      have i10 : i < 10 := by omega
      refine ⟨_, rfl, .inl ⟨rfl, _, SqL.of hmv⟩, _, rfl, _, rfl, _, rfl, ml, _, rfl, .inl (SqL.of hmv), _, rfl, _, _, rfl, rfl, _, rfl, _, rfl, kl, _, rfl, .inl (SqL.of b.k), a, fc, _, _, _, R, 120 + 10 * i, rfl, by omega, by omega, by omega, by omega, by omega, by omega, by rw [List.length_map]; omega, b.w, by omega, by omega, fun r p G2 rok rby rsm s2 w2 np hpn hp2 => ?_⟩
      have b1 := b.one s2 w2
      obtain ⟨gx, hgx⟩ := b.w.lst
      have hm2 := s2 _ _ b.n3 hmv
      have tm2 := tmv.but s2 hgx
      rw [List.length_map, lmv] at rok
      refine ⟨ml, _, _, rfl, rfl, hm2, sl_lt (by omega), rows3 ++ [r], _, rfl, (b1.two (SameBut2.two SameBut.upd) (b1.w.but SameBut.upd b.n3.symm) (TL7.push hm2 tm2 hp2)).mono (by omega), (rg.snoc bd (by have := Rn i; have := Rn i; omega) (by omega) rok rby).mono (by rw [Int.natCast_add, Int.mul_add]; omega), by rw [List.length_append, List.length_singleton, lr]; omega, ⟨t ++ [r], by rw [et, List.append_assoc]⟩, fun z => app_small (sm z) (one_small (rsm (decide_eq_true z)))⟩
    obtain ⟨rows2, y4, rfl, b2, RG, lr2, ⟨t2, et2⟩, sm2⟩ := hP
    have RB1 : R * (n1 : Int) ≤ 100 := by
      by_cases h5 : so = 5
      · have := na1 h5
        rcases (by omega : n1 = 0 ∨ n1 = 1) with rfl | rfl
        · show R * 0 ≤ 100
          omega
        · show R * 1 ≤ 100
          omega
      · have := nb1 h5
        have := R2 h5
        rcases (by omega : n1 = 0 ∨ n1 = 1 ∨ n1 = 2 ∨ n1 = 3 ∨ n1 = 4 ∨ n1 = 5) with rfl | rfl | rfl | rfl | rfl | rfl
        · show R * 0 ≤ 100
          omega
        · show R * 1 ≤ 100
          omega
        · show R * 2 ≤ 100
          omega
        · show R * 3 ≤ 100
          omega
        · show R * 4 ≤ 100
          omega
        · show R * 5 ≤ 100
          omega
    have n15 : n1 ≤ 5 := by
      by_cases h5 : so = 5
      · have := na1 h5
        omega
      · have := nb1 h5
        omega
    replace b2 := b2.mono (c' := 180) (by omega)
    refine ⟨(by show 0 ≤ sizeLine; decide), fun ll hll => ?_⟩
    generalize hG9 : upd _ ll _ = G9
    obtain ⟨s9, h_ll⟩ := upd_gen hG9 hll
    have nla : ll ≠ a := b2.w.ne hll
    have f_ll : H ll = none := same_free b2.sb hwx hll nla
    have nlk : kl ≠ ll := ne_of_none b2.k hll
    have nlf : fl ≠ ll := by
      obtain ⟨fv2, hf2, _⟩ := b2.f
      exact ne_of_none hf2 hll
    have nlm : ml ≠ ll := by
      obtain ⟨fv2, hf2, _⟩ := b2.m
      exact ne_of_none hf2 hll
    have b9 := b2.new s9
    refine ⟨_, rfl, kl, rfl, ⟨_, SqL.of b9.k⟩, ?_⟩
    refine for_it (walk_list (K := K) (a := kl) (xs := ks.map nI)) (fun i σ G => ∃ (rows3 : List Row) (hs : List Hold) (y11 y12 : Option V), σ = [some (.ref a), some (.int so), some (.int (fc : Int)), some (.int (en : Int)), y4, some (.ref kl), some (.int R), some (.ref fl), some (.ref ml), some (.int (last : Int)), some (.ref ll), y11, y12] ∧ NB H G a kl fl ml ks fs rows3 (180 + 12 * i) ∧ RowsG ks.length fc (fpt fs en) (ks.map (fpt fs)) (fs.map (·.pt)) rows3 (R + 8 + R * n1) ∧ (so < 2 → ∀ r ∈ rows3, r.small) ∧ rows3.length ≤ 21 + i ∧ last < rows3.length ∧ TL7 G ll (hs.map Hold.vs) ∧ hs.map (·.k) = ks.take i ∧ ∀ h ∈ hs, HoldOk fs rows3 h) ⟨rows2, [], none, none, rfl, b9.mono (by omega), RG, sm2, by omega, by omega, ⟨[], h_ll, .nil⟩, rfl, fun h x => nomatch x⟩ (fun i σ G hi hP => ?_) (fun i x σ G G' hi hP hY => ?_) (fun σ G hP => ?_)
    · obtain ⟨rows3, hs, y11, y12, rfl, b, _⟩ := hP
      exact SqL.of b.k
    · obtain ⟨rows3, hs, y11, y12, rfl, b, rg, sm3, lr3, la3, ⟨lv, hlv, tlv⟩, hke, hho⟩ := hP
      obtain ⟨rfl, hx⟩ := hY
      rw [List.getElem?_map] at hx
      obtain ⟨kd, ekd, rfl⟩ := Option.map_eq_some_iff.mp hx
      have i3 : i < ks.length := (List.getElem?_eq_some_iff.mp ekd).1
      have kdl : kd < fs.length := by
        have := hks kd (List.mem_of_getElem? ekd)
        omega
      have ef := List.getElem?_eq_getElem kdl
      have efrm := frm_at ef
      generalize fs[kd] = f at ef efrm
      obtain ⟨fv, hfv, tfv⟩ := id b.f
      obtain ⟨fp, ep, hfp⟩ := tfv.at (i := kd) (xs := f.vs) (by rw [List.getElem?_map, ef]; rfl)
      refine ⟨_, rfl, _, rfl, _, rfl, fl, _, _, .ref fp, rfl, rfl, SqL.of hfv, atI_nat ep, a, fp, f, 180 + 12 * i, rfl, hfp, (hfo f (List.mem_of_getElem? ef)).1, b.w, by omega, by omega, fun s G2 hin sz s2 w2 => ?_⟩
      obtain ⟨gx, hgx⟩ := b.w.lst
      have b3 := b.one s2 w2
      have hlv2 := s2 _ _ nla hlv
      have tlv2 := tlv.but s2 hgx
      obtain ⟨gx3, hgx3⟩ := b3.w.lst
      obtain ⟨mv3, hmv3, tmv3⟩ := id b3.m
      refine ⟨_, rfl, .inl ⟨rfl, _, SqL.of hlv2⟩, _, rfl, _, rfl, _, rfl, _, rfl, _, rfl, _, rfl, a, ml, rows3, kd, last, 180 + 12 * i + 5, rfl, b3.m, b3.n3, la3, by omega, b3.w, by omega, by omega, fun ex j x G3 hex hj sb3 w3 tl3 => ⟨(by show 3 ≤ sizeLine; decide), fun p hp => ?_⟩⟩
      have hlv3 := sb3 _ _ nla nlm.symm hlv2
      have tlv3 := tlv2.but2 sb3 hgx3 hmv3
      have b4 := b3.two sb3 w3 tl3
      generalize hGp : upd _ p _ = G5
      obtain ⟨s5, h_p⟩ := upd_gen hGp hp
      have hlv5 := s5 _ _ hlv3
      have b5 := b4.new s5
      have lhs : hs.length = i := by
        have := congrArg List.length hke
        rw [List.length_map, List.length_take] at this
        omega
      have llv := tlv.len
      rw [List.length_map] at llv
      have smx : ∀ r ∈ ex, r.small := by
        rcases hex with rfl | ⟨rfl, _⟩
        · exact fun r hr => (List.not_mem_nil hr).elim
        · exact one_small trivial
      refine ⟨ll, _, _, rfl, rfl, hlv5, sl_lt (by omega), rows3 ++ ex, hs ++ [⟨kd, s, j⟩], _, _, rfl, (b5.but SameBut.upd hlv5 f_ll nla.symm nlk nlf nlm).mono (by omega), ?_, (fun z => app_small (sm3 z) smx), ?_, ?_, ⟨_, upd_same, ?_⟩, ?_, fun h hh => ?_⟩
      · rcases hex with rfl | ⟨rfl, hx⟩
        · rw [List.append_nil]
          exact rg
        · exact rg.keep bd (by have := Rn n1; omega) (by omega) hx
      · rw [List.length_append]
        rcases hex with rfl | ⟨rfl, _⟩
        · rw [List.length_nil]
          omega
        · rw [List.length_singleton]
          omega
      · rw [List.length_append]
        omega
      · rw [List.map_append]
        exact TsAt.push hlv5 (tlv3.same s5) h_p
      · rw [List.map_append, hke, List.take_add_one, ekd]
        rfl
      · rcases List.mem_append.mp hh with hh | hh
        · exact (hho h hh).more
        · rw [List.mem_singleton.mp hh]
          refine ⟨kdl, ?_, sz, hj⟩
          show inR (frm fs kd).w s = true
          rw [efrm]
          exact hin
    obtain ⟨rows4, hs, y11, y12, rfl, b4, RG2, sm4, lr4, la4, ⟨lv, hlv, tlv⟩, hke, hho⟩ := hP
    rw [List.length_map, List.take_length] at hke
    rw [List.length_map] at lr4 b4
    replace b4 := b4.mono (c' := 216) (by omega)
    clear b2 b9 RG b bx1 RG1
    have lhs : hs.length = ks.length := by
      have := congrArg List.length hke
      rw [List.length_map] at this
      exact this
    obtain ⟨gx4, hgx4⟩ := b4.w.lst
    refine ⟨_, rfl, a, 216, 3, rfl, b4.w, by omega, by decide, by decide +kernel, fun r51 H51 r510 r511 d51 e51 w51 => ⟨_, rfl, a, 216 + 1, 2, rfl, w51, by omega, by decide, by decide +kernel, fun r52 H52 r520 r521 d52 e52 w52 => ⟨(by show 2 ≤ sizeLine; decide), fun lx hlx => ?_⟩⟩⟩
    generalize hGx : upd _ lx _ = Gx2
    obtain ⟨sx2, h_lx⟩ := upd_gen hGx hlx
    obtain ⟨n2, in2, na2, nb2⟩ := pickN (so := so) 3 2 r510 r511 r520 r521
    have bx2 := ((b4.one d51 w51).one d52 w52).new sx2
    refine ⟨_, rfl, rfl, .inr ⟨_, rfl, lx, _, _, .int (n2 : Int), rfl, rfl, SqL.of h_lx, in2, n2, rfl, by omega, by omega, ?_⟩⟩
    obtain ⟨gx5, hgx5⟩ := w51.lst
    have hlv6 := sx2 _ _ (d52 _ _ nla (d51 _ _ nla hlv))
    have tlv6 := ((tlv.but d51 hgx4).but d52 hgx5).same sx2
    refine for_it walk_range (fun i σ G => ∃ (rows3 : List Row) (y4 : Option V), σ = [some (.ref a), some (.int so), some (.int (fc : Int)), some (.int (en : Int)), y4, some (.ref kl), some (.int R), some (.ref fl), some (.ref ml), some (.int (last : Int)), (some (.ref ll)), y11, y12] ∧ NB H G a kl fl ml ks fs rows3 (220 + 10 * i) ∧ RowsG ks.length fc (fpt fs en) (ks.map (fpt fs)) (fs.map (·.pt)) rows3 (R + 8 + R * n1 + R * i) ∧ rows3.length = rows4.length + i ∧ (∃ t, rows3 = rows4 ++ t) ∧ (so < 2 → ∀ r ∈ rows3, r.small) ∧ TL7 G ll (hs.map Hold.vs)) ⟨rows4, y4, rfl, bx2.mono (by omega), RG2.mono (by omega), rfl, ⟨[], (List.append_nil _).symm⟩, sm4, ⟨lv, hlv6, tlv6⟩⟩ (fun _ _ _ _ _ => trivial) (fun i x σ G G' hi hP hY => ?_) (fun σ G hP => ?_)
    · obtain ⟨rows3, y4, rfl, b, rg, lr, ⟨t, et⟩, sm, ⟨lv, hlv, tlv⟩⟩ := hP
      obtain ⟨rfl, rfl⟩ := hY
      obtain ⟨mv, hmv, tmv⟩ := id b.m
      have lmv := tmv.rlen
      have i10 : i < 10 := by omega
      refine ⟨_, rfl, .inl ⟨rfl, _, SqL.of hmv⟩, _, rfl, _, rfl, _, rfl, ml, _, rfl, .inl (SqL.of hmv), _, rfl, _, _, rfl, rfl, _, rfl, _, rfl, kl, _, rfl, .inl (SqL.of b.k), a, fc, _, _, _, R, 220 + 10 * i, rfl, by omega, by omega, by omega, by omega, by omega, by omega, by rw [List.length_map]; omega, b.w, by omega, by omega, fun r p G2 rok rby rsm s2 w2 np hpn hp2 => ?_⟩
      have b1 := b.one s2 w2
      obtain ⟨gx, hgx⟩ := b.w.lst
      have hm2 := s2 _ _ b.n3 hmv
      have tm2 := tmv.but s2 hgx
      rw [List.length_map, lmv] at rok
      refine ⟨ml, _, _, rfl, rfl, hm2, sl_lt (by omega), rows3 ++ [r], _, rfl, (b1.two (SameBut2.two SameBut.upd) (b1.w.but SameBut.upd b.n3.symm) (TL7.push hm2 tm2 hp2)).mono (by omega), (rg.snoc bd (by have := Rn i; have := Rn n1; omega) (by omega) rok rby).mono (by rw [Int.natCast_add, Int.mul_add]; omega), by rw [List.length_append, List.length_singleton, lr]; omega, ⟨t ++ [r], by rw [et, List.append_assoc]⟩, (fun z => app_small (sm z) (one_small (rsm (decide_eq_true z)))), ⟨lv, by rw [upd_ne nlm.symm]; exact s2 _ _ nla hlv, (tlv.but s2 hgx).but SameBut.upd hm2⟩⟩
    obtain ⟨rows5, y4, rfl, b5, RG5, lr5, ⟨t5, et5⟩, sm5, ⟨lv5, hlv5, tlv5⟩⟩ := hP
    replace RG5 : RowsG ks.length fc (fpt fs en) (ks.map (fpt fs)) (fs.map (·.pt)) rows5 (R + 8 + R * (n1 : Int) + R * (n2 : Int)) := RG5
    have RB2 : R * (n2 : Int) ≤ 60 := by
      by_cases h5 : so = 5
      · have := na2 h5
        rcases (by omega : n2 = 0 ∨ n2 = 1) with rfl | rfl
        · show R * 0 ≤ 60
          omega
        · show R * 1 ≤ 60
          omega
      · have := nb2 h5
        have := R2 h5
        rcases (by omega : n2 = 0 ∨ n2 = 1 ∨ n2 = 2) with rfl | rfl | rfl
        · show R * 0 ≤ 60
          omega
        · show R * 1 ≤ 60
          omega
        · show R * 2 ≤ 60
          omega
    have RB3 : R + 8 + R * (n1 : Int) + R * (n2 : Int) ≤ 200 := by
      by_cases h5 : so = 5
      · have := na1 h5
        rcases (by omega : n1 = 0 ∨ n1 = 1) with rfl | rfl
        · show R + 8 + R * 0 + R * (n2 : Int) ≤ 200
          omega
        · show R + 8 + R * 1 + R * (n2 : Int) ≤ 200
          omega
      · have := R2 h5
        omega
    have n23 : n2 ≤ 3 := by
      by_cases h5 : so = 5
      · have := na2 h5
        omega
      · have := nb2 h5
        omega
    replace b5 := b5.mono (c' := 250) (by omega)
    obtain ⟨mv, hmv, tmv⟩ := id b5.m
    have lmv := tmv.rlen
    refine ⟨_, rfl, _, rfl, _, rfl, _, rfl, _, rfl, _, rfl, ml, _, rfl, .inl (SqL.of hmv), _, _, rfl, rfl, _, rfl, _, rfl, ml, _, rfl, .inl (SqL.of hmv), a, 250, _, rfl, b5.w, by omega, by omega, Nat.lt_of_le_of_lt (show _ ≤ 1000 by omega) (by decide +kernel), fun r61 H61 r610 r611 d61 e61 w61 => ⟨(by show 3 ≤ sizeLine; decide), fun lx hlx => ?_⟩⟩
    generalize hGx : upd _ lx _ = G7
    obtain ⟨s7, h_lx⟩ := upd_gen hGx hlx
    have b7 := (b5.one d61 w61).new s7
    refine ⟨_, rfl, a, 250 + 1, 3, rfl, b7.w, by omega, by decide, by decide +kernel, fun r62 H62 r620 r621 d62 e62 w62 => ?_⟩
    obtain ⟨v, i3, o3⟩ := threeI (x := V.int last) (y := V.int ((mv.length : Int) - 1)) (z := V.int r61) r620 r621
    obtain ⟨out, rfl, outl⟩ : ∃ x : Nat, v = .int (x : Int) ∧ x < rows5.length := by
      rcases o3 with rfl | rfl | rfl
      · exact ⟨_, rfl, by omega⟩
      · exact ⟨rows5.length - 1, by congr 1; omega, by omega⟩
      · exact ⟨r61.toNat, by congr 1; omega, by omega⟩
    have nlx : lx ≠ a := w61.ne hlx
    refine ⟨lx, _, _, _, rfl, rfl, SqL.of (d62 _ _ nlx h_lx), i3, (by show 5 ≤ sizeLine; decide), fun p hp => ?_⟩
    generalize hGp : upd _ p _ = G8
    obtain ⟨s8, h_p⟩ := upd_gen hGp hp
    have b8 := (b7.one d62 w62).new s8
    have np : p ≠ a := w62.ne hp
    obtain ⟨gx5, hgx5⟩ := b5.w.lst
    obtain ⟨gx7, hgx7⟩ := b7.w.lst
    have lhs2 : (⟨fs, en, rows5, hs, out⟩ : NetP).holds.length = ks.length := lhs
    have hpe : hpts ⟨fs, en, rows5, hs, out⟩ = ks.map (fpt fs) := by
      unfold hpts
      rw [← hke, List.map_map]
      rfl
    obtain ⟨gx8, hgx8⟩ := b8.w.lst
    have mild : Mild ⟨fs, en, rows5, hs, out⟩ := by
      by_cases z : so < 2
      · have r5 := R3 z
        have n5 := nb1 (by omega)
        have m3 := nb2 (by omega)
        have q1 : R * (n1 : Int) ≤ 25 := by
          have := Int.mul_le_mul (show R ≤ 5 by omega) (show (n1 : Int) ≤ 5 by omega) (by omega) (by omega)
          omega
        have q2 : R * (n2 : Int) ≤ 10 := by
          have := Int.mul_le_mul (show R ≤ 5 by omega) (show (n2 : Int) ≤ 2 by omega) (by omega) (by omega)
          omega
        refine .inr ⟨sm5 z, fun p hp => ?_, fun f hfm => ?_, by show rows5.length ≤ 27; omega⟩
        · have e : NetP.pts ⟨fs, en, rows5, hs, out⟩ = ptsOf (fpt fs en) (ks.map (fpt fs)) (fs.map (·.pt)) rows5 := by
            unfold NetP.pts
            rw [hpe]
          rw [e] at hp
          have := RG5.pb p hp
          omega
        · have := (hfo f hfm).2.1
          omega
      · exact .inl fun f hfm => (hfo f hfm).2.2 z
    refine q ⟨fs, en, rows5, hs, out⟩ p G8 ⟨by show 1 ≤ fs.length; omega, by show fs.length ≤ 12; omega, fun f hfm => (hfo f hfm).1, by show en < fs.length; omega, by rw [lhs2]; omega, fun h hh => ?_, by show 1 ≤ rows5.length; omega, by show rows5.length ≤ 60; omega, ?_, ?_, outl⟩ (fun h hh => (hho h hh).2.2.1) mild (by show rows5.length ≤ 26; omega) (b8.w.mono (by omega)) b8.sb (same_free (b7.one d62 w62).sb hwx hp np) (fun G9 s9 => PartsAt.but (n := ⟨fs, en, rows5, hs, out⟩) ⟨fl, ml, ll, h_p, b8.f, b8.m, lv5, s8 _ _ (d62 _ _ nla (s7 _ _ (d61 _ _ nla hlv5))), (((tlv5.but d61 hgx5).same s7).but d62 hgx7).same s8⟩ s9 hgx8 fun fa ra hb e => by
      rw [h_p] at e
      cases e
      exact ⟨b8.n2, b8.n3, nla⟩)
    · obtain ⟨h1, h2, _, x, hx⟩ := hho h hh
      refine ⟨h1, fun f ef => by rw [← frm_at ef]; exact h2, x, ?_⟩
      show rows5[h.l]? = some (.keep h.k x)
      rw [et5, List.getElem?_append_left (List.getElem?_eq_some_iff.mp hx).1]
      exact hx
    · intro i r e
      rw [lhs2]
      have := RG5.ok i r e
      rw [← lf] at this
      exact this
    · intro p hp
      have e : NetP.pts ⟨fs, en, rows5, hs, out⟩ = ptsOf (fpt fs en) (ks.map (fpt fs)) (fs.map (·.pt)) rows5 := by
        unfold NetP.pts
        rw [hpe]
      rw [e] at hp
      have := RG5.pb p hp
      omega
end
end E1

namespace E1
open PySem PySem.Spec PyProof.Rows L2
def Kd7.isKp : Kd7 → Bool
  | .keep => true
  | _ => false
theorem kp_no {k : Kd7} (h : k ≠ .keep) : k.isKp = false := by
  cases k <;> first | rfl | exact absurd rfl h

def kpAt (rows : List Row) (i : Nat) : Bool := match rows[i]? with
  | some (.keep _ _) => true
  | _ => false
/-- what went at a row -/
def wentV (n : NetP) (nums : List Int) (f a : Nat) : Int :=
  stepsAt (frm n.fs f).pt (frm n.fs f).m (nums.getD a 0) (n.pts.getD a 0) - wordF (frm n.fs f).w (frm n.fs f).st (stepsAt (frm n.fs f).pt (frm n.fs f).m (nums.getD a 0) (n.pts.getD a 0))
def wentAt (n : NetP) (nums : List Int) (i : Nat) : Bool := match n.rows[i]? with
  | some (.keep f a) => !decide (V.int (wentV n nums f a) = V.int 0)
  | _ => false
def keepsOf (rows : List Row) : List Nat := (List.range rows.length).filter (kpAt rows)
def oversOf (n : NetP) (nums : List Int) : List Nat := (List.range n.rows.length).filter (wentAt n nums)
theorem filt_one (p : Nat → Bool) (i : Nat) : [i].filter p = if p i = true then [i] else [] := by
  rw [List.filter_cons]
  rfl
theorem range_filt (p : Nat → Bool) (i : Nat) : (List.range (i + 1)).filter p = (List.range i).filter p ++ (if p i = true then [i] else []) := by
  rw [List.range_succ, List.filter_append, filt_one]
theorem went_kp {n : NetP} {nums : List Int} {i : Nat} (h : wentAt n nums i = true) : kpAt n.rows i = true := by
  unfold wentAt at h
  split at h
  · rename_i f a e
    unfold kpAt
    rw [e]
  · cases h
theorem overs_is (n : NetP) (nums : List Int) : (keepsOf n.rows).filter (wentAt n nums) = oversOf n nums := by
  unfold keepsOf oversOf
  rw [List.filter_filter]
  refine List.filter_congr fun i _ => ?_
  cases h : wentAt n nums i with
  | false => rfl
  | true => exact went_kp h
theorem keeps_at {rows : List Row} {i : Nat} (h : i ∈ keepsOf rows) : ∃ f a, rows[i]? = some (.keep f a) := by
  have := (List.mem_filter.mp h).2
  unfold kpAt at this
  split at this
  · rename_i f a e
    exact ⟨f, a, e⟩
  · cases this
theorem kp_of {rows : List Row} {i : Nat} {r : Row} (e : rows[i]? = some r) : kpAt rows i = r.kd.isKp := by
  unfold kpAt
  rw [e]
  cases r <;> rfl

def spKeepsM (C CN : Addr) : Sp := fun vs H Q _ => ∃ (p : Addr) (n : NetP), vs = [.ref p] ∧ NetAt C CN H p n ∧ ∀ l H', H l = none → Same H H' → H' l = some (.lst ((keepsOf n.rows).map nI)) → Q (.ref l) H'
structure NumsOk (n : NetP) (nums : List Int) : Prop where
  len : nums.length = n.rows.length
  sz : ∀ k ∈ nums, k.natAbs < 2 ^ 900000
def spWent (C CN : Addr) : Sp := fun vs H Q _ => ∃ (p na : Addr) (n : NetP) (i : Nat) (nums : List Int) (f a : Nat), vs = [.ref p, .int i, .ref na] ∧ NetAt C CN H p n ∧ n.rows[i]? = some (.keep f a) ∧ H na = some (.lst (nums.map V.int)) ∧ NumsOk n nums ∧ ∀ H', Same H H' → Q (.bl (wentAt n nums i)) H'
def spOvers (C CN : Addr) : Sp := fun vs H Q _ => ∃ (p na : Addr) (n : NetP) (nums : List Int), vs = [.ref p, .ref na] ∧ NetAt C CN H p n ∧ H na = some (.lst (nums.map V.int)) ∧ NumsOk n nums ∧ ∀ l H', H l = none → Same H H' → H' l = some (.lst ((oversOf n nums).map nI)) → Q (.ref l) H'
section
variable {P : Program} {w : World} {K : PySem.W.Frag} {mg : Str → Option Value} {base : Heap}
theorem sc_Net_keeps : FnScope ["self", "at", "row"] ["self"] (defScope s_Net_keeps) := ⟨rfl, rfl, rfl, by decide +kernel, rfl, by decide +kernel, by decide +kernel⟩
theorem ok_Net_keeps {f : Addr} {fd : FuncData} {k : Nat} {C CN : Addr} (TN : NTxt K mg CN) (F : Fun K "keeps" "Net.keeps" s_Net_keeps f fd) (z : Zs mg) : FnOk P w K mg base CX0 (k + 1) f fd ["self"] (spKeepsM C CN) := by
  refine F.ok sc_Net_keeps (fun vs H Q E h => ?_) (fun cdv A outer s H vs Q E hr h => ?_)
  · obtain ⟨p, n, rfl, _⟩ := h
    rfl
  · obtain ⟨p, n, rfl, ⟨ok, dx, fl, rl, hl2, pl, fv, rv, hv, b⟩, q⟩ := h
    refine ⟨_, (pss_one (ps_ret (pe_lc (own := [("at", 1), ("row", 2)]) (g := gTup K 2 (gCons (gName 1) (gCons (gName 2) gNil))) (te := (tVar 1)) (tt := (tTest (tOp rEq (tOp (rIxT K) (tVar 2) (tC (.int 0))) (tC (.str "keep"))))) (by rfl) sc_Net_keeps.nd (pi_enum (by rfl) z.enumerate (pa_cons (pe_fld (pv 0) rfl) pa_nil)) (blkOk_by (own := [("at", 1), ("row", 2)]) (N := ["self", "at", "row"]) (sc := defScope s_Net_keeps) (by decide +kernel)) (fun _ _ _ _ _ => by exact (pg_tup (by rfl) (pgs_cons (pg_name (i := 1) sc_Net_keeps.nd rfl (.inl rfl)) (pgs_cons (pg_name (i := 2) sc_Net_keeps.nd rfl (.inl rfl)) pgs_nil)))) (fun _ _ _ _ _ => by exact (pts_one (pt_cmpR op_eq (pe_ix ix_tup (pv 2) pe_int (fun _ _ => rfl)) pe_str (nomark _)))) (fun _ _ _ _ _ => by exact (pv 1))))), ?_⟩
    have lr := b.rs.rlen
    have r60 := ok.r2
    refine ⟨_, rfl, p, CN, dx, _, _, rfl, b.ob, TN.cl, TN.n_row_list, nl_r, rl, _, rfl, SqL.of b.ra, fun D hD => ?_⟩
    refine lc_it (walk_enum (K := K) (a := rl) (xs := rv)) (fun i G => Same H G ∧ G D = some (.lst (((List.range i).filter (kpAt n.rows)).map nI))) ⟨same_new hD, upd_same⟩ (fun i G _ hP => SqL.of (hP.1 _ _ b.ra)) (fun i v G G' hi hP hY => ?_) (fun G hP => ?_)
    · obtain ⟨s1, hd⟩ := hP
      obtain ⟨Tp, u, v', rfl, nT, rfl, e1, e2⟩ := hY
      cases e1
      obtain ⟨rp, xs, rfl, ex, hrp⟩ := b.rs.get e2
      rw [List.getElem?_map] at ex
      obtain ⟨r, er, rfl⟩ := Option.map_eq_some_iff.mp ex
      have sN := same_new (o := .tup [.int (i : Nat), .ref rp]) nT
      have S := s1.trans sN
      have ek := kp_of er
      have lt : (((List.range i).filter (kpAt n.rows)).map nI).length < sizeLine := by
        rw [List.length_map]
        refine sl_lt (Nat.le_trans (List.length_filter_le _ _) ?_)
        rw [List.length_range]
        omega
      refine ⟨Tp, _, rfl, SqT.of upd_same, rfl, _, _, rfl, _, _, rfl, rfl, rfl, ?_⟩
      refine ⟨_, rfl, rp, _, 0, .str r.kd.s, rfl, rfl, SqT.of (S _ _ hrp), atI_nat (j := 0) r.vs0, rfl, _, rfl, ?_⟩
      by_cases k1 : r.kd = .keep
      · refine iteC (d := true) (by rw [k1]; exact decide_eq_true rfl) (iteT ⟨_, rfl, _, sN _ _ hd, lt, fun c o e => ?_, ?_⟩)
        · rw [upd_ne (ne_of_none e hD)]
          exact S _ _ e
        · rw [upd_same, range_filt, ek, k1, if_pos (show Kd7.keep.isKp = true from rfl), List.map_append]
          rfl
      · refine iteC (d := false) (decide_eq_false (fun z => kd_ne _ _ k1 (V.str.inj z))) (iteF ⟨S, ?_⟩)
        rw [range_filt, ek, kp_no k1, if_neg (by decide), List.append_nil]
        exact sN _ _ hd
    · obtain ⟨s1, hd⟩ := hP
      rw [lr] at hd
      exact q D _ hD s1 hd
theorem sc_went_over : FnScope ["net", "row", "numbers", "word", "form", "at"] ["net", "row", "numbers"] (defScope s_went_over) := ⟨rfl, rfl, rfl, by decide +kernel, rfl, by decide +kernel, by decide +kernel⟩
theorem ok_went_over {f : Addr} {fd : FuncData} {C CN : Addr} (T : FTxt K mg C) (TN : NTxt K mg CN) (F : Fun K "went_over" "went_over" s_went_over f fd) (n_forms : CalM P w K mg base 1 CN "forms" ["self"] (spFormsM C CN)) (n_rows : CalM P w K mg base 1 CN "rows" ["self"] (spRowsM C CN)) (n_points : CalM P w K mg base 1 CN "points" ["self"] (spPtsM C CN)) (m_kept_at : CalM P w K mg base 5 C "kept_at" ["self", "number", "point"] (spKeptAt C)) : FnOk P w K mg base CX0 6 f fd ["net", "row", "numbers"] (spWent C CN) := by
  refine F.ok sc_went_over (fun vs H Q E h => ?_) (fun cdv A outer s H vs Q E hr h => ?_)
  · obtain ⟨p, na, n, i, nums, f, a, rfl, _⟩ := h
    rfl
  · obtain ⟨p, na, n, i, nums, f, a, rfl, hn, er, hna, no, q⟩ := h
    refine ⟨_, (pss_cons (ps_asg (pe_ix ix_list (pe_calm0 (pv 0) TN.cl n_rows hr) (pv 1) (fun _ _ => rfl)) (pg_tup (by rfl) (pgs_cons (pg_name (i := 3) sc_went_over.nd rfl (.inl rfl)) (pgs_cons (pg_name (i := 4) sc_went_over.nd rfl (.inl rfl)) (pgs_cons (pg_name (i := 5) sc_went_over.nd rfl (.inl rfl)) pgs_nil)))))
      (pss_one (ps_ret (pe_cmpR op_ne (pe_ix ix_tup (pe_calm (pe_ix ix_list (pe_calm0 (pv 0) TN.cl n_forms hr) (pv 4) (fun _ _ => rfl)) T.cl m_kept_at hr (pa_cons (pe_ix ix_list (pv 2) (pv 5) (fun _ _ => rfl)) (pa_cons (pe_ix ix_list (pe_calm0 (pv 0) TN.cl n_points hr) (pv 5) (fun _ _ => rfl)) pa_nil))) pe_int (fun _ _ => rfl)) pe_int (nomark _))))), ?_⟩
    obtain ⟨ok, dx, fl, rl, hl, pl, fv, rv, hv, b⟩ := id hn
    obtain ⟨hf, ha⟩ := ok.ro i _ er
    have il := (List.getElem?_eq_some_iff.mp er).1
    have lp := pts_len n
    refine ⟨_, rfl, p, dx, _, rfl, b.ob, nl_no (by decide +kernel), p, n, rfl, hn, fun rl2 rv2 H1 hr1 s1 h_rl2 hrr => ?_⟩
    obtain ⟨rp, erp, hrp⟩ := hrr.at (i := i) (xs := (Row.keep f a).vs) (by rw [List.getElem?_map, er]; rfl)
    refine ⟨_, rfl, rl2, _, _, .ref rp, rfl, rfl, SqL.of h_rl2, atI_nat erp, rp, _, rfl, SqT.of hrp, rfl, _, _, rfl, _, _, rfl, _, _, rfl, rfl, ?_⟩
    refine ⟨_, rfl, p, dx, _, rfl, s1 _ _ b.ob, nl_no (by decide +kernel), p, n, rfl, hn.same s1, fun fl2 fv2 H2 hf1 s2 h_fl2 hff => ?_⟩
    obtain ⟨fp, efp, hfp⟩ := hff.frm hf
    obtain ⟨dxf, hof⟩ := hfp.ob
    have S2 := s1.trans s2
    refine ⟨_, rfl, fl2, _, _, .ref fp, rfl, rfl, SqL.of h_fl2, atI_nat efp, fp, dxf, _, rfl, hof, fl_no (by decide +kernel), _, rfl, _, rfl, na, _, _, _, rfl, rfl, SqL.of (S2 _ _ hna), ints_at (by rw [no.len]; omega), ?_⟩
    refine ⟨_, rfl, p, dx, _, rfl, S2 _ _ b.ob, nl_no (by decide +kernel), p, n, rfl, hn.same S2, fun pl2 H3 hp1 s3 h_pl2 => ?_⟩
    have hb : -200 ≤ n.pts.getD a 0 ∧ n.pts.getD a 0 ≤ 200 := ok.po _ (by
      rw [List.getD_eq_getElem?_getD, List.getElem?_eq_getElem (by omega)]
      exact List.getElem_mem _)
    refine ⟨_, rfl, pl2, _, _, _, rfl, rfl, SqL.of h_pl2, ints_at (by omega), fp, _, _, _, _, _, _, rfl, hfp.same s3, hb.1, hb.2, getD_lt no.sz (Nat.pow_pos (by decide)), fun t H4 ht s4 h_t => ?_⟩
    refine ⟨t, _, 1, _, rfl, rfl, SqT.of h_t, a1, rfl, ?_⟩
    have := q H4 ((S2.trans s3).trans s4)
    have e : wentAt n nums i = !decide (V.int (wentV n nums f a) = V.int 0) := by
      unfold wentAt
      rw [er]
    rw [e] at this
    exact this
theorem sc_overs : FnScope ["net", "numbers", "row"] ["net", "numbers"] (defScope s_overs) := ⟨rfl, rfl, rfl, by decide +kernel, rfl, by decide +kernel, by decide +kernel⟩
theorem ok_overs {f : Addr} {fd : FuncData} {C CN : Addr} (TN : NTxt K mg CN) (F : Fun K "overs" "overs" s_overs f fd) (n_keeps : CalM P w K mg base 1 CN "keeps" ["self"] (spKeepsM C CN)) (c_went_over : Cal P w K mg base 6 "went_over" ["net", "row", "numbers"] (spWent C CN)) : FnOk P w K mg base CX0 7 f fd ["net", "numbers"] (spOvers C CN) := by
  refine F.ok sc_overs (fun vs H Q E h => ?_) (fun cdv A outer s H vs Q E hr h => ?_)
  · obtain ⟨p, na, n, nums, rfl, _⟩ := h
    rfl
  · obtain ⟨p, na, n, nums, rfl, hn, hna, no, q⟩ := h
    refine ⟨_, (pss_one (ps_ret (pe_lc (own := [("row", 2)]) (g := gName 2) (te := (tVar 2)) (tt := (tB (tCall (spWent C CN) [] E0 (tCons (tVar 0) (tCons (tVar 2) (tCons (tVar 1) tNil)))))) (by rfl) sc_overs.nd (pi_list (pe_calm0 (pv 0) TN.cl n_keeps hr)) (blkOk_by (own := [("row", 2)]) (N := ["net", "numbers", "row"]) (sc := defScope s_overs) (by decide +kernel)) (fun _ _ _ _ _ => by exact (pg_name (i := 2) sc_overs.nd rfl (.inl rfl))) (fun _ _ _ _ _ => by exact (pts_one (pt_val (pe_cal c_went_over hr (pa_cons (pv 0) (pa_cons (pv 2) (pa_cons (pv 1) pa_nil))))))) (fun _ _ _ _ _ => by exact (pv 2))))), ?_⟩
    obtain ⟨ok, dx, fl, rl, hl, pl, fv, rv, hv, b⟩ := id hn
    have r60 := ok.r2
    have kl : (keepsOf n.rows).length ≤ 60 := by
      refine Nat.le_trans (List.length_filter_le _ _) ?_
      rw [List.length_range]
      omega
    refine ⟨_, rfl, p, dx, _, rfl, b.ob, nl_no (by decide +kernel), p, n, rfl, hn, fun kl2 H1 hk1 s1 h_kl => ?_⟩
    refine ⟨kl2, rfl, ⟨_, SqL.of h_kl⟩, fun D hD => ?_⟩
    refine lc_it (walk_list (K := K) (a := kl2) (xs := (keepsOf n.rows).map nI)) (fun i G => Same H1 G ∧ G D = some (.lst ((((keepsOf n.rows).take i).filter (wentAt n nums)).map nI))) ⟨same_new hD, upd_same⟩ (fun i G _ hP => SqL.of (hP.1 _ _ h_kl)) (fun i v G G' hi hP hY => ?_) (fun G hP => ?_)
    · obtain ⟨s2, hd⟩ := hP
      obtain ⟨rfl, hx⟩ := hY
      rw [List.getElem?_map] at hx
      obtain ⟨j, ej, rfl⟩ := Option.map_eq_some_iff.mp hx
      obtain ⟨f, a, er⟩ := keeps_at (List.mem_of_getElem? ej)
      have S := s1.trans s2
      have et : ((keepsOf n.rows).take (i + 1)).filter (wentAt n nums) = ((keepsOf n.rows).take i).filter (wentAt n nums) ++ (if wentAt n nums j = true then [j] else []) := by
        rw [List.take_add_one, ej, List.filter_append, Option.toList_some, filt_one]
      refine ⟨rfl, _, rfl, _, rfl, _, rfl, p, na, n, j, nums, f, a, rfl, hn.same S, er, S _ _ hna, no, fun H3 s3 => ⟨_, rfl, ite2 (fun c => ?_) (fun c => ?_)⟩⟩
      · refine ⟨_, rfl, _, s3 _ _ hd, ?_, fun b' o e => ?_, ?_⟩
        · rw [List.length_map]
          refine sl_lt (Nat.le_trans (List.length_filter_le _ _) ?_)
          rw [List.length_take]
          omega
        · rw [upd_ne (ne_of_none e hD)]
          exact s3 _ _ (s2 _ _ e)
        · rw [upd_same, et, if_pos c, List.map_append]
          rfl
      · refine ⟨s2.trans s3, ?_⟩
        rw [et, if_neg c, List.append_nil]
        exact s3 _ _ hd
    · obtain ⟨s2, hd⟩ := hP
      rw [List.length_map, List.take_length, overs_is] at hd
      exact q D _ (s1.free hD) (s1.trans s2) hd
end
end E1

namespace E1
open PySem PySem.Spec PyProof.Rows L2
def spLRound : Sp := fun vs H Q _ => ∃ (t b : Int) (m : Mn), vs = [.int t, .int b, .str m.str] ∧ 0 < b ∧ b.natAbs < 2 ^ 4000 ∧ ∀ H', Same H H' → Q (.int (lawR m t b)) H'
theorem lawR_zero (m : Mn) {t b : Int} (hb : 0 < b) (h : t % b = 0) : lawR m t b = t / b := by
  cases m <;> simp [lawR, h, hb]
/-- the law's own word -/
def wordL (w : Option Int) (st : Bool) (n : Int) : Int := match w with
  | none => n
  | some x => if st = true then (if (if n < two (x - 1) - 1 then n else two (x - 1) - 1) > 0 - two (x - 1) then (if n < two (x - 1) - 1 then n else two (x - 1) - 1) else 0 - two (x - 1)) else (n + two (x - 1)) % (2 * two (x - 1)) - two (x - 1)
theorem two_succ {x : Int} (h : 1 ≤ x) : two x = 2 * two (x - 1) := by
  unfold two
  have e : x.toNat = (x - 1).toNat + 1 := by omega
  rw [e, Int.pow_succ, Int.mul_comm]
theorem word_is {w : Option Int} (hw : WOk w) (st : Bool) (n : Int) : wordF w st n = wordL w st n := by
  cases w with
  | none => rfl
  | some x =>
    obtain ⟨h1, h2⟩ := hw x rfl
    have r0 := two_pos (x - 1)
    have e := two_succ (x := x) (by omega)
    show (if (decide (lst x ≤ n) && decide (n ≤ grt x)) = true then n else if st = true then (if n < 0 then lst x else grt x) else (n - lst x) % two x + lst x) = (if st = true then (if (if n < two (x - 1) - 1 then n else two (x - 1) - 1) > 0 - two (x - 1) then (if n < two (x - 1) - 1 then n else two (x - 1) - 1) else 0 - two (x - 1)) else (n + two (x - 1)) % (2 * two (x - 1)) - two (x - 1))
    unfold lst grt
    rw [e]
    generalize two (x - 1) = r at *
    by_cases hi : (decide (-r ≤ n) && decide (n ≤ r - 1)) = true
    · rw [if_pos hi]
      rw [Bool.and_eq_true, decide_eq_true_eq, decide_eq_true_eq] at hi
      cases st with
      | true =>
        rw [if_pos rfl]
        split <;> split <;> omega
      | false =>
        rw [if_neg Bool.false_ne_true]
        have := Int.emod_eq_of_lt (a := n + r) (b := 2 * r) (by omega) (by omega)
        rw [this]
        omega
    · rw [if_neg hi]
      rw [Bool.and_eq_true, decide_eq_true_eq, decide_eq_true_eq] at hi
      cases st with
      | true =>
        rw [if_pos rfl, if_pos rfl]
        split <;> split <;> (try split) <;> omega
      | false =>
        rw [if_neg Bool.false_ne_true, if_neg Bool.false_ne_true, show n - -r = n + r by omega]
        omega

theorem word_bd {y : Int} (h : WOk (some y)) (st : Bool) (n : Int) : (wordF (some y) st n).natAbs < 2 ^ 70 := by
  rw [word_is h]
  obtain ⟨y0, y1⟩ := h y rfl
  have t1 : (two (y - 1)).natAbs ≤ 2 ^ 64 := by
    unfold two
    rw [Int.natAbs_pow]
    exact Nat.pow_le_pow_right (by decide) (by omega)
  have p1 := two_pos (y - 1)
  have b1 : (2 : Nat) ^ 70 = 2 ^ 64 * 64 := by decide
  show (if st = true then (if (if n < two (y - 1) - 1 then n else two (y - 1) - 1) > 0 - two (y - 1) then (if n < two (y - 1) - 1 then n else two (y - 1) - 1) else 0 - two (y - 1)) else (n + two (y - 1)) % (2 * two (y - 1)) - two (y - 1)).natAbs < 2 ^ 70
  have m0 := Int.emod_nonneg (n + two (y - 1)) (show 2 * two (y - 1) ≠ 0 by omega)
  have m1 := Int.emod_lt_of_pos (n + two (y - 1)) (show 0 < 2 * two (y - 1) by omega)
  rw [b1]
  generalize (n + two (y - 1)) % (2 * two (y - 1)) = u at *
  generalize two (y - 1) = t at *
  generalize (2 : Nat) ^ 64 = N at *
  cases st with
  | true =>
    rw [if_pos rfl]
    split <;> split <;> omega
  | false =>
    rw [if_neg (by decide)]
    omega
/-- a state's size behind so many turns -/
def SzS (n : NetP) (i : Nat) (st : List Int) : Prop := (∀ k ∈ st, k.natAbs < 2 ^ 70) ∨ (Calm n ∧ ∀ k ∈ st, k.natAbs < 2 ^ (70 + 2700 * i))
theorem behind_of {n : NetP} {nums : List Int} {k : Int} (h : k ∈ n.behind nums) : ∃ h ∈ n.holds, k = nums.getD h.l 0 := by
  unfold NetP.behind at h
  obtain ⟨x, hx, rfl⟩ := List.mem_map.mp h
  exact ⟨x, hx, rfl⟩
theorem turn_sz {n : NetP} (ok : NetOk n) (ml : Mild n) {x : Int} {st : List Int} {i : Nat} (hx : x.natAbs < 2 ^ 70) (h : SzS n i st) (hi : i < 300) : NumOk n x st ∧ SzS n (i + 1) (n.behind (n.nums x st)) := by
  have r60 := ok.r2
  rcases h with h | ⟨cm, h⟩
  · have a := all_take (num_lt ok ⟨hx, h⟩ n.rows.length (Nat.le_refl _))
    refine ⟨fun k hk => num_big r60 (a k hk), ?_⟩
    rcases ml with bd | cm
    · refine .inl fun k hk => ?_
      obtain ⟨hh, hm, rfl⟩ := behind_of hk
      obtain ⟨hf, _, b, eb⟩ := ok.ho hh hm
      have ef := List.getElem?_eq_getElem hf
      have e := accL_at (g := numRow n.fs n.pts x st) eb
      have e2 : (n.nums x st).getD hh.l 0 = numRow n.fs n.pts x st (accL (numRow n.fs n.pts x st) (n.rows.take hh.l)) (.keep hh.k b) := by
        unfold NetP.nums
        rw [List.getD_eq_getElem?_getD, e]
        rfl
      rw [e2]
      have wo := (ok.fo _ (List.getElem_mem hf)).wo
      have wn := bd _ (List.getElem_mem hf)
      have efr := frm_at ef
      show (wordF (frm n.fs hh.k).w (frm n.fs hh.k).st _).natAbs < 2 ^ 70
      rw [efr]
      cases hw : n.fs[hh.k].w with
      | none => exact absurd hw wn
      | some y =>
        rw [hw] at wo
        exact word_bd wo _ _
    · refine .inr ⟨cm, fun k hk => ?_⟩
      obtain ⟨hh, hm, rfl⟩ := behind_of hk
      have ln := cm.ln
      exact up (getD_lt (all_take (num_calm ok cm (Nat.le_refl _) hx h n.rows.length (Nat.le_refl _))) (Nat.pow_pos (by decide))) (by omega)
  · have ln := cm.ln
    have a := all_take (num_calm ok cm (show 70 ≤ 70 + 2700 * i by omega) hx h n.rows.length (Nat.le_refl _))
    refine ⟨fun k hk => up (a k hk) (by omega), .inr ⟨cm, fun k hk => ?_⟩⟩
    obtain ⟨hh, hm, rfl⟩ := behind_of hk
    exact up (getD_lt a (Nat.pow_pos (by decide))) (by omega)
/-- what a run tells, and the state behind -/
def runF (n : NetP) (st : List Int) (xs : List Int) : List Int × List Int := xs.foldl (fun p x => (p.1 ++ [(n.nums x p.2).getD n.out 0], n.behind (n.nums x p.2))) ([], st)
theorem runF_next {n : NetP} {st xs : List Int} {i : Nat} {x : Int} (h : xs[i]? = some x) : runF n st (xs.take (i + 1)) = ((runF n st (xs.take i)).1 ++ [(n.nums x (runF n st (xs.take i)).2).getD n.out 0], n.behind (n.nums x (runF n st (xs.take i)).2)) := by
  unfold runF
  rw [List.take_add_one, h, Option.toList_some, List.foldl_append]
  rfl
theorem run_facts {n : NetP} {st xs : List Int} (hl : st.length = n.holds.length) : ∀ i, i ≤ xs.length → (runF n st (xs.take i)).1.length = i ∧ (runF n st (xs.take i)).2.length = n.holds.length := by
  intro i
  induction i with
  | zero => exact fun _ => ⟨rfl, hl⟩
  | succ i ih =>
    intro hi
    obtain ⟨x, ex⟩ : ∃ x, xs[i]? = some x := ⟨_, List.getElem?_eq_getElem (by omega)⟩
    rw [runF_next ex]
    refine ⟨?_, ?_⟩
    · rw [List.length_append, (ih (by omega)).1]
      rfl
    · show (n.behind _).length = _
      unfold NetP.behind
      rw [List.length_map]
def RunOk (n : NetP) (st xs : List Int) : Prop := xs.length ≤ 300 ∧ ∀ i x, xs[i]? = some x → NumOk n x (runF n st (xs.take i)).2
theorem run_ok {n : NetP} (ok : NetOk n) (ml : Mild n) {st xs : List Int} (h0 : ∀ k ∈ st, k.natAbs < 2 ^ 70) (hx : ∀ x ∈ xs, x.natAbs < 2 ^ 70) (hl : xs.length ≤ 300) : RunOk n st xs := by
  have key : ∀ i, i ≤ xs.length → SzS n i (runF n st (xs.take i)).2 := by
    intro i
    induction i with
    | zero => exact fun _ => .inl h0
    | succ i ih =>
      intro hi
      obtain ⟨x, ex⟩ : ∃ x, xs[i]? = some x := ⟨_, List.getElem?_eq_getElem (by omega)⟩
      rw [runF_next ex]
      exact (turn_sz ok ml (hx x (List.mem_of_getElem? ex)) (ih (by omega)) (by omega)).2
  refine ⟨hl, fun i x ex => ?_⟩
  have il := (List.getElem?_eq_some_iff.mp ex).1
  exact (turn_sz ok ml (hx x (List.mem_of_getElem? ex)) (key i (by omega)) (by omega)).1
def starts (n : NetP) : List Int := n.holds.map (·.s)
def spStartM (C CN : Addr) : Sp := fun vs H Q _ => ∃ (p : Addr) (n : NetP), vs = [.ref p] ∧ NetAt C CN H p n ∧ ∀ t H', H t = none → Same H H' → H' t = some (.tup ((starts n).map V.int)) → Q (.ref t) H'
def spOutM (C CN : Addr) : Sp := fun vs H Q _ => ∃ (p : Addr) (n : NetP), vs = [.ref p] ∧ NetAt C CN H p n ∧ Q (.int n.out) H
def spFirst (C CN : Addr) : Sp := fun vs H Q _ => ∃ (p : Addr) (n : NetP) (v : V) (st : List Int), vs = [.ref p, v] ∧ NetAt C CN H p n ∧ ((v = .non ∧ st = starts n) ∨ ∃ sa, v = .ref sa ∧ H sa = some (.tup (st.map V.int)) ∧ StOk n st) ∧ ∀ t H', Same H H' → H' t = some (.tup (st.map V.int)) → Q (.ref t) H'
def spCkRun (C CN : Addr) : Sp := fun vs H Q _ => ∃ (p wl : Addr) (n : NetP) (xs : List Int), vs = [.ref p, .ref wl] ∧ NetAt C CN H p n ∧ H wl = some (.lst (xs.map V.int)) ∧ (∀ x ∈ xs, inR (frm n.fs n.en).w x = true) ∧ ∀ H', Same H H' → Q .non H'
def spRun (C CN : Addr) : Sp := fun vs H Q _ => ∃ (p wl : Addr) (n : NetP) (xs : List Int) (v : V) (st : List Int), vs = [.ref p, .ref wl, v] ∧ NetAt C CN H p n ∧ H wl = some (.lst (xs.map V.int)) ∧ (∀ x ∈ xs, inR (frm n.fs n.en).w x = true) ∧ ((v = .non ∧ st = starts n) ∨ ∃ sa, v = .ref sa ∧ H sa = some (.tup (st.map V.int)) ∧ StOk n st) ∧ st.length = n.holds.length ∧ RunOk n st xs ∧
  ∀ l H', H l = none → Same H H' → H' l = some (.lst ((runF n st xs).1.map V.int)) → Q (.ref l) H'
section
variable {P : Program} {w : World} {K : PySem.W.Frag} {mg : Str → Option Value} {base : Heap}
theorem sc_Net_start : FnScope ["self", "hold"] ["self"] (defScope s_Net_start) := ⟨rfl, rfl, rfl, by decide +kernel, rfl, by decide +kernel, by decide +kernel⟩
theorem ok_Net_start {f : Addr} {fd : FuncData} {k : Nat} {C CN : Addr} (TN : NTxt K mg CN) (F : Fun K "start" "Net.start" s_Net_start f fd) (z : Zs mg) : FnOk P w K mg base CX0 (k + 1) f fd ["self"] (spStartM C CN) := by
  refine F.ok sc_Net_start (fun vs H Q E h => ?_) (fun cdv A outer s H vs Q E hr h => ?_)
  · obtain ⟨p, n, rfl, _⟩ := h
    rfl
  · obtain ⟨p, n, rfl, ⟨ok, dx, fl, rl, hl2, pl, fv, rv, hv, b⟩, q⟩ := h
    refine ⟨_, (pss_one (ps_ret (pe_callTy call_tuple_of (by rfl) z.tuple (by decide +kernel) (pa_cons (pe_lc (own := [("hold", 1)]) (g := gName 1) (tt := tYes) (te := (tOp (rIxT K) (tVar 1) (tC (.int 1)))) (by rfl) sc_Net_start.nd (pi_list (pe_fld (pv 0) rfl)) (blkOk_by (own := [("hold", 1)]) (N := ["self", "hold"]) (sc := defScope s_Net_start) (by decide +kernel)) (fun _ _ _ _ _ => by exact (pg_name (i := 1) sc_Net_start.nd rfl (.inl rfl))) (fun _ _ _ _ _ => by exact pts_nil) (fun _ _ _ _ _ => by exact (pe_ix ix_tup (pv 1) pe_int (fun _ _ => rfl)))) pa_nil)))), ?_⟩
    have lh := b.hs.len
    rw [List.length_map] at lh
    have h6 := ok.h2
    refine ⟨_, rfl, p, CN, dx, _, _, rfl, b.ob, TN.cl, TN.n_hold_list, nl_h, hl2, rfl, ⟨_, SqL.of b.ha⟩, fun D hD => ?_⟩
    refine lc_it (walk_list (K := K) (a := hl2) (xs := hv)) (fun i G => Same H G ∧ G D = some (.lst (((n.holds.take i).map (·.s)).map V.int))) ⟨same_new hD, upd_same⟩ (fun i G _ hP => SqL.of (hP.1 _ _ b.ha)) (fun i v G G' hi hP hY => ?_) (fun G hP => ?_)
    · obtain ⟨s3, hd⟩ := hP
      obtain ⟨rfl, e1⟩ := hY
      obtain ⟨hp, xs, rfl, ex, hhp⟩ := b.hs.get e1
      rw [List.getElem?_map] at ex
      obtain ⟨hh, eh, rfl⟩ := Option.map_eq_some_iff.mp ex
      refine ⟨rfl, _, rfl, hp, _, 1, .int hh.s, rfl, rfl, SqT.of (s3 _ _ hhp), a1, _, hd, ?_, fun c o e => ?_, ?_⟩
      · rw [List.length_map, List.length_map, List.length_take]
        exact sl_lt (by omega)
      · rw [upd_ne (ne_of_none e hD)]
        exact s3 _ _ e
      · rw [upd_same, List.take_add_one, eh, List.map_append, List.map_append]
        rfl
    · obtain ⟨s3, hd⟩ := hP
      rw [lh, List.take_length] at hd
      refine ⟨D, _, rfl, .inl ⟨SqL.of hd, fun t ht => ?_⟩⟩
      generalize hG : upd _ t _ = G2
      obtain ⟨s4, h_t⟩ := upd_gen hG ht
      exact q t _ (s3.free ht) (s3.trans s4) h_t
theorem sc_Net_out : FnScope ["self"] ["self"] (defScope s_Net_out) := ⟨rfl, rfl, rfl, by decide +kernel, rfl, by decide +kernel, by decide +kernel⟩
theorem ok_Net_out {f : Addr} {fd : FuncData} {k : Nat} {C CN : Addr} (TN : NTxt K mg CN) (F : Fun K "out" "Net.out" s_Net_out f fd) : FnOk P w K mg base CX0 (k + 1) f fd ["self"] (spOutM C CN) := by
  refine F.ok sc_Net_out (fun vs H Q E h => ?_) (fun cdv A outer s H vs Q E hr h => ?_)
  · obtain ⟨p, n, rfl, _⟩ := h
    rfl
  · obtain ⟨p, n, rfl, ⟨ok, dx, fl, rl, hl2, pl, fv, rv, hv, b⟩, q⟩ := h
    refine ⟨_, (pss_one (ps_ret (pe_fld (pv 0) rfl))), ?_⟩
    exact ⟨_, rfl, p, CN, dx, _, _, rfl, b.ob, TN.cl, TN.n_out_at, nl_o, q⟩
theorem sc_first_state : FnScope ["net", "state"] ["net", "state"] (defScope s_first_state) := ⟨rfl, rfl, rfl, by decide +kernel, rfl, by decide +kernel, by decide +kernel⟩
theorem ok_first_state {f : Addr} {fd : FuncData} {C CN : Addr} (TN : NTxt K mg CN) (F : Fun K "first_state" "first_state" s_first_state f fd) (n_start : CalM P w K mg base 1 CN "start" ["self"] (spStartM C CN)) (c_check_state : Cal P w K mg base 4 "check_state" ["net", "state"] (spCkState C CN)) : FnOk P w K mg base CX0 5 f fd ["net", "state"] (spFirst C CN) := by
  refine F.ok sc_first_state (fun vs H Q E h => ?_) (fun cdv A outer s H vs Q E hr h => ?_)
  · obtain ⟨p, n, v, st, rfl, _⟩ := h
    rfl
  · obtain ⟨p, n, v, st, rfl, hn, hv, q⟩ := h
    refine ⟨_, (pss_cons (ps_if (pt_cmpR op_isN (pv 1) pe_non (nomark _)) (pss_one (ps_ret (pe_calm0 (pv 0) TN.cl n_start hr))) pss_nil)
      (pss_cons (ps_expr (pe_cal c_check_state hr (pa_cons (pv 0) (pa_cons (pv 1) pa_nil))))
      (pss_one (ps_ret (pv 1))))), ?_⟩
    obtain ⟨ok, dx, fl, rl, hl, pl, fv, rv, hv2, b⟩ := id hn
    rcases hv with ⟨rfl, rfl⟩ | ⟨sa, rfl, hsa, so⟩
    · exact ⟨_, rfl, rfl, _, rfl, iteC (d := true) (decide_eq_true rfl) (iteT ⟨_, rfl, p, dx, _, rfl, b.ob, nl_no (by decide +kernel), p, n, rfl, hn, fun t H' ht s h_t => q t H' s h_t⟩)⟩
    · exact ⟨_, rfl, rfl, _, rfl, iteC (d := false) (decide_eq_false (fun z => nomatch z)) (iteF ⟨_, rfl, _, rfl, p, sa, n, st, rfl, hn, hsa, so, fun H' s => ⟨_, rfl, q sa H' s (s _ _ hsa)⟩⟩)⟩
theorem sc_check_run : FnScope ["net", "words", "form", "at", "word"] ["net", "words"] (defScope s_check_run) := ⟨rfl, rfl, rfl, by decide +kernel, rfl, by decide +kernel, by decide +kernel⟩
theorem ok_check_run {f : Addr} {fd : FuncData} {C CN : Addr} (T : FTxt K mg C) (F : Fun K "check_run" "check_run" s_check_run f fd) (z : Zs mg) (c_enter_form : Cal P w K mg base 2 "enter_form" ["net"] (spEnterForm C CN)) (m_has : CalM P w K mg base 2 C "has" ["self", "thing"] (spHas K C)) : FnOk P w K mg base CX0 3 f fd ["net", "words"] (spCkRun C CN) := by
  refine F.ok sc_check_run (fun vs H Q E h => ?_) (fun cdv A outer s H vs Q E hr h => ?_)
  · obtain ⟨p, wl, n, xs, rfl, _⟩ := h
    rfl
  · obtain ⟨p, wl, n, xs, rfl, hn, hw, hx, q⟩ := h
    refine ⟨_, (pss_cons (ps_set (i := 2) sc_check_run.nd rfl (.inl rfl) (pe_cal c_enter_form hr (pa_cons (pv 0) pa_nil)))
      (pss_one (ps_for PassesOwn.never rfl (pi_enum (by rfl) z.enumerate (pa_cons (pv 1) pa_nil)) (pg_tup (by rfl) (pgs_cons (pg_name (i := 3) sc_check_run.nd rfl (.inl rfl)) (pgs_cons (pg_name (i := 4) sc_check_run.nd rfl (.inl rfl)) pgs_nil))) (pss_one (ps_if (pt_not (pt_val (pe_calm (pv 2) T.cl m_has hr (pa_cons (pv 4) pa_nil)))) (pss_one ps_never) pss_nil))))), ?_⟩
    refine ⟨_, rfl, p, n, rfl, hn, fun fp H1 s1 hf => ?_⟩
    refine ⟨_, rfl, wl, _, rfl, SqL.of (s1 _ _ hw), ?_⟩
    refine for_it (walk_enum (K := K) (a := wl) (xs := xs.map V.int)) (fun i σ G => ∃ y3 y4 : Option V, σ = [some (.ref p), some (.ref wl), some (.ref fp), y3, y4] ∧ Same H1 G) ⟨none, none, rfl, Same.refl _⟩ (fun i σ G _ hP => ?_) (fun i v σ G G' hi hP hY => ?_) (fun σ G hP => ?_)
    · obtain ⟨y3, y4, rfl, s2⟩ := hP
      exact SqL.of (s2 _ _ (s1 _ _ hw))
    · obtain ⟨y3, y4, rfl, s2⟩ := hP
      obtain ⟨Tp, u, v', rfl, nT, rfl, e1, e2⟩ := hY
      cases e1
      replace e2 : (xs.map V.int)[i]? = some v' := e2
      rw [List.getElem?_map] at e2
      obtain ⟨x, ex, rfl⟩ := Option.map_eq_some_iff.mp e2
      have s3 := s2.trans (same_new (o := .tup [.int (i : Nat), .int x]) nT)
      have hf2 := FormAt.same hf s3
      obtain ⟨dx, ho⟩ := hf2.ob
      refine ⟨Tp, _, rfl, SqT.of upd_same, rfl, _, _, rfl, _, _, rfl, rfl, ?_⟩
      refine ⟨_, rfl, fp, dx, _, rfl, ho, fl_no (by decide +kernel), _, rfl, fp, _, _, _, _, .int x, _, rfl, hf2, .inl ⟨x, rfl, rfl⟩, _, rfl, ?_⟩
      rw [hx x (List.mem_of_getElem? ex)]
      exact iteF ⟨_, _, rfl, s3⟩
    · obtain ⟨y3, y4, rfl, s2⟩ := hP
      exact q _ (s1.trans s2)
theorem sc_run : FnScope ["net", "words", "state", "told", "word", "numbers"] ["net", "words", "state"] (defScope s_run) := ⟨rfl, rfl, rfl, by decide +kernel, rfl, by decide +kernel, by decide +kernel⟩
theorem ok_run {f : Addr} {fd : FuncData} {C CN : Addr} (TN : NTxt K mg CN) {dvs : List V} (F : FunD K "run" "run" (defArgs s_run) (defBody s_run) (defScope s_run) dvs [] f fd) (z : Zs mg) (n_out : CalM P w K mg base 1 CN "out" ["self"] (spOutM C CN)) (c_first_state : Cal P w K mg base 5 "first_state" ["net", "state"] (spFirst C CN)) (c_check_run : Cal P w K mg base 3 "check_run" ["net", "words"] (spCkRun C CN)) (c_turn_of : Cal P w K mg base 8 "turn_of" ["net", "state", "word"] (spTurnOf C CN)) : FnOk P w K mg base CX0 9 f fd ["net", "words", "state"] (spRun C CN) := by
  refine F.ok sc_run (fun vs H Q E h => ?_) (fun cdv A outer s H vs Q E hr h => ?_)
  · obtain ⟨p, wl, n, xs, v, st, rfl, _⟩ := h
    rfl
  · obtain ⟨p, wl, n, xs, v, st, rfl, hn, hw, hx, hv, hls, ro, q⟩ := h
    refine ⟨_, PSs.nox (pss_cons (ps_set (i := 2) sc_run.nd rfl (.inl rfl) (pe_cal c_first_state hr (pa_cons (pv 0) (pa_cons (pv 2) pa_nil))))
      (pss_cons (ps_expr (pe_cal c_check_run hr (pa_cons (pv 0) (pa_cons (pv 1) pa_nil))))
      (pss_cons (ps_set (i := 3) sc_run.nd rfl (.inl rfl) (pe_lst pa_nil))
      (pss_cons (ps_for PassesOwn.never rfl (pi_list (pv 1)) (pg_name (i := 4) sc_run.nd rfl (.inl rfl)) (pss_cons (ps_asg (pe_cal c_turn_of hr (pa_cons (pv 0) (pa_cons (pv 2) (pa_cons (pv 4) pa_nil)))) (pg_tup (by rfl) (pgs_cons (pg_name (i := 5) sc_run.nd rfl (.inl rfl)) (pgs_cons (pg_name (i := 2) sc_run.nd rfl (.inl rfl)) pgs_nil))))
      (pss_one (ps_expr (pe_bm PySem.F.plainAttrs_list PySem.F.slot_list_append PySem.F.type_list_append mt_append (pv 3) (pa_cons (pe_ix ix_list (pv 5) (pe_calm0 (pv 0) TN.cl n_out hr) (fun _ _ => rfl)) pa_nil))))))
      (pss_one (ps_ret (pv 3))))))), ?_⟩
    obtain ⟨ok, dx, fl, rl, hl, pl, fv, rv, hv2, b⟩ := id hn
    obtain ⟨x300, rok⟩ := ro
    have outl := ok.out
    refine ⟨_, rfl, _, rfl, p, n, v, st, rfl, hn, hv, fun sa H1 s1 h_sa => ?_⟩
    refine ⟨_, rfl, _, rfl, p, wl, n, xs, rfl, hn.same s1, s1 _ _ hw, hx, fun H2 s2 => ?_⟩
    have S2 := s1.trans s2
    refine ⟨(by show 0 ≤ sizeLine; decide), fun dl hdl => ?_⟩
    generalize hG : upd _ dl _ = G0
    obtain ⟨s3, h_dl⟩ := upd_gen hG hdl
    have hdl0 := S2.free hdl
    refine ⟨_, rfl, wl, rfl, ⟨_, SqL.of (s3 _ _ (S2 _ _ hw))⟩, ?_⟩
    refine for_it (walk_list (K := K) (a := wl) (xs := xs.map V.int)) (fun i σ G => ∃ (sb : Addr) (y4 y5 : Option V), σ = [some (.ref p), some (.ref wl), some (.ref sb), some (.ref dl), y4, y5] ∧ Same H G ∧ G dl = some (.lst ((runF n st (xs.take i)).1.map V.int)) ∧ G sb = some (.tup ((runF n st (xs.take i)).2.map V.int))) ⟨sa, none, none, rfl, S2.trans s3, h_dl, s3 _ _ (s2 _ _ h_sa)⟩ (fun i σ G hi hP => ?_) (fun i v σ G G' hi hP hY => ?_) (fun σ G hP => ?_)
    · obtain ⟨sb, y4, y5, rfl, S, _⟩ := hP
      exact SqL.of (S _ _ hw)
    · obtain ⟨sb, y4, y5, rfl, S, hd, hs⟩ := hP
      obtain ⟨rfl, hY⟩ := hY
      rw [List.getElem?_map] at hY
      obtain ⟨x, ex, rfl⟩ := Option.map_eq_some_iff.mp hY
      have il := (List.getElem?_eq_some_iff.mp ex).1
      obtain ⟨f1, f2⟩ := run_facts hls i (by omega) (xs := xs)
      have nx := runF_next (n := n) (st := st) ex
      refine ⟨_, rfl, _, rfl, _, rfl, p, sb, n, x, _, rfl, hn.same S, hs, f2, rok i x ex, fun t l s H3 s4 ht hl0 hs0 h_t h_l h_s => ⟨t, _, rfl, SqT.of h_t, rfl, _, _, rfl, _, _, rfl, rfl, ?_⟩⟩
      have S4 := S.trans s4
      have hd4 := s4 _ _ hd
      have nds : s ≠ dl := (ne_of_none hd hs0).symm
      refine ⟨_, rfl, .inl ⟨rfl, _, SqL.of hd4⟩, _, rfl, _, rfl, p, dx, _, rfl, S4 _ _ b.ob, nl_no (by decide +kernel), p, n, rfl, hn.same S4, l, _, _, _, rfl, rfl, SqL.of h_l, ints_at (by rw [nums_len]; exact outl), ?_⟩
      refine ⟨dl, _, _, rfl, rfl, hd4, sl_lt (by rw [List.length_map, f1]; omega), s, _, _, rfl, fun c o e => ?_, ?_, ?_⟩
      · rw [upd_ne (ne_of_none e hdl0)]
        exact S4 _ _ e
      · rw [upd_same, nx, List.map_append]
        rfl
      · rw [upd_ne nds, nx]
        exact h_s
    · obtain ⟨sb, y4, y5, rfl, S, hd, hs⟩ := hP
      rw [List.length_map, List.take_length] at hd
      exact ⟨_, rfl, q dl _ hdl0 S hd⟩
end
end E1

namespace E1
open PySem PySem.Spec PyProof.Rows L2

/-- a turn that stands: its numbers and the state behind -/
structure Trn where
  nums : List Int
  aft : List Int
inductive PsAt (n : NetP) (A : Addr → Prop) (H : Hp) : List V → List Trn → Prop where
  | nil : PsAt n A H [] []
  | snoc {vs : List V} {ts : List Trn} {t l o s : Addr} {r : Trn} (p : PsAt n A H vs ts) (ht : H t = some (.tup [.ref l, .ref o, .ref s])) (hl : H l = some (.lst (r.nums.map V.int))) (ho : H o = some (.lst ((oversOf n r.nums).map nI))) (hs : H s = some (.tup (r.aft.map V.int))) (nl : ¬ A l) (no : ¬ A o) : PsAt n A H (vs ++ [.ref t]) (ts ++ [r])
theorem PsAt.same {n : NetP} {A : Addr → Prop} {H H' : Hp} {vs : List V} {ts : List Trn} (h : PsAt n A H vs ts) (s : Same H H') : PsAt n A H' vs ts := by
  induction h with
  | nil => exact .nil
  | snoc _ ht hl ho hs nl no ih => exact .snoc ih (s _ _ ht) (s _ _ hl) (s _ _ ho) (s _ _ hs) nl no
theorem PsAt.keep {n : NetP} {A : Addr → Prop} {x : Addr} {H H' : Hp} {vs : List V} {ts : List Trn} (h : PsAt n A H vs ts) (s : SameBut x H H') (ax : A x) {xs : List V} (hp : H x = some (.lst xs)) : PsAt n A H' vs ts := by
  induction h with
  | nil => exact .nil
  | snoc _ ht hl ho hs nl no ih => exact .snoc ih (s _ _ (ne_of ht hp (fun z => nomatch z)) ht) (s _ _ (fun z => nl (z ▸ ax)) hl) (s _ _ (fun z => no (z ▸ ax)) ho) (s _ _ (ne_of hs hp (fun z => nomatch z)) hs) nl no
/-- one more list to be kept off -/
theorem PsAt.grow {n : NetP} {A : Addr → Prop} {x : Addr} {H : Hp} {vs : List V} {ts : List Trn} (h : PsAt n A H vs ts) (hx : H x = none) : PsAt n (fun y => A y ∨ y = x) H vs ts := by
  induction h with
  | nil => exact .nil
  | snoc _ ht hl ho hs nl no ih => exact .snoc ih ht hl ho hs (fun z => z.elim nl fun e => by rw [e, hx] at hl; cases hl) (fun z => z.elim no fun e => by rw [e, hx] at ho; cases ho)
theorem PsAt.len {n : NetP} {A : Addr → Prop} {H : Hp} {vs : List V} {ts : List Trn} (h : PsAt n A H vs ts) : vs.length = ts.length := by
  induction h with
  | nil => rfl
  | snoc _ _ _ _ _ _ _ ih => rw [List.length_append, List.length_append, ih]; rfl
/-- the last turn -/
theorem PsAt.last {n : NetP} {A : Addr → Prop} {H : Hp} {vs : List V} {ts : List Trn} (h : PsAt n A H vs ts) : (vs = [] ∧ ts = []) ∨ ∃ vs' ts' t l o s r, vs = vs' ++ [.ref t] ∧ ts = ts' ++ [r] ∧ H t = some (.tup [.ref l, .ref o, .ref s]) ∧ H l = some (.lst (r.nums.map V.int)) ∧ H o = some (.lst ((oversOf n r.nums).map nI)) ∧ H s = some (.tup (r.aft.map V.int)) := by
  cases h with
  | nil => exact .inl ⟨rfl, rfl⟩
  | snoc _ ht hl ho hs _ _ => exact .inr ⟨_, _, _, _, _, _, _, rfl, rfl, ht, hl, ho, hs⟩
def mflds (fs np pl : Addr) : List (Str × V) := [("first", .ref fs), ("net", .ref np), ("past", .ref pl)]
structure MTxt (K : PySem.W.Frag) (mg : Str → Option Value) (CM : Addr) : Prop where
  cl : Cls K CM
  n_first : NoAttr K CM "first"
  n_net : NoAttr K CM "net"
  n_past : NoAttr K CM "past"
/-- a machine in the heap; B: what was there ahead of its list of turns; A: lists that its turns are kept off -/
structure MB (C CN CM : Addr) (A : Addr → Prop) (B H : Hp) (m pl : Addr) (n : NetP) (st0 : List Int) (hist : List Trn) (dx fs np : Addr) (pv : List V) : Prop where
  ob : H m = some (.ins CM dx (mflds fs np pl))
  bm : B m = none
  bp : B pl = none
  bs : Same B H
  net : NetAt C CN B np n
  fs : H fs = some (.tup (st0.map V.int))
  pa : H pl = some (.lst pv)
  ps : PsAt n A H pv hist
def MachAt (C CN CM : Addr) (A : Addr → Prop) (B H : Hp) (m pl : Addr) (n : NetP) (st0 : List Int) (hist : List Trn) : Prop := ∃ dx fs np pv, MB C CN CM A B H m pl n st0 hist dx fs np pv
section
variable {C CN CM : Addr} {A : Addr → Prop} {B H H' : Hp} {m pl : Addr} {n : NetP} {st0 : List Int} {hist : List Trn} {dx fs np : Addr} {pv : List V}
theorem MB.same (b : MB C CN CM A B H m pl n st0 hist dx fs np pv) (s : Same H H') : MB C CN CM A B H' m pl n st0 hist dx fs np pv :=
  ⟨s _ _ b.ob, b.bm, b.bp, b.bs.trans s, b.net, s _ _ b.fs, s _ _ b.pa, b.ps.same s⟩
theorem MachAt.same (h : MachAt C CN CM A B H m pl n st0 hist) (s : Same H H') : MachAt C CN CM A B H' m pl n st0 hist := by
  obtain ⟨dx, fs, np, pv, b⟩ := h
  exact ⟨dx, fs, np, pv, b.same s⟩
/-- under a turn of another machine -/
theorem MachAt.but {x : Addr} {xs : List V} (h : MachAt C CN CM A B H m pl n st0 hist) (s : SameBut x H H') (ax : A x) (hx : H x = some (.lst xs)) (bx : B x = none) (nx : pl ≠ x) : MachAt C CN CM A B H' m pl n st0 hist := by
  obtain ⟨dx, fs, np, pv, b⟩ := h
  exact ⟨dx, fs, np, pv, s _ _ (ne_of b.ob hx (fun z => nomatch z)) b.ob, b.bm, b.bp, same_but b.bs s bx, b.net, s _ _ (ne_of b.fs hx (fun z => nomatch z)) b.fs, s _ _ nx b.pa, b.ps.keep s ax hx⟩
theorem MachAt.lst (h : MachAt C CN CM A B H m pl n st0 hist) : ∃ xs, H pl = some (.lst xs) := by
  obtain ⟨dx, fs, np, pv, b⟩ := h
  exact ⟨pv, b.pa⟩
theorem MachAt.bp (h : MachAt C CN CM A B H m pl n st0 hist) : B pl = none := by
  obtain ⟨dx, fs, np, pv, b⟩ := h
  exact b.bp
theorem MachAt.bs (h : MachAt C CN CM A B H m pl n st0 hist) : Same B H := by
  obtain ⟨dx, fs, np, pv, b⟩ := h
  exact b.bs
end
/-- the state of a machine -/
def stOf (st0 : List Int) (hist : List Trn) : List Int := match hist.getLast? with
  | some r => r.aft
  | none => st0
theorem stOf_nil (st0 : List Int) : stOf st0 [] = st0 := rfl
theorem stOf_snoc (st0 : List Int) (ts : List Trn) (r : Trn) : stOf st0 (ts ++ [r]) = r.aft := by
  unfold stOf
  rw [List.getLast?_concat]
section
variable {fs np pl : Addr}
theorem mN1 : (("net" : Str) == "first") = false := by decide +kernel
theorem mN2 : (("past" : Str) == "first") = false := by decide +kernel
theorem mN3 : (("past" : Str) == "net") = false := by decide +kernel
theorem ml_f : (mflds fs np pl).lookup ("first" : Str) = some (.ref fs) := by
  unfold mflds
  rw [List.lookup_cons, beq_self_eq_true]
theorem ml_n : (mflds fs np pl).lookup ("net" : Str) = some (.ref np) := by
  unfold mflds
  rw [List.lookup_cons, mN1, List.lookup_cons, beq_self_eq_true]
theorem ml_p : (mflds fs np pl).lookup ("past" : Str) = some (.ref pl) := by
  unfold mflds
  rw [List.lookup_cons, mN2, List.lookup_cons, mN3, List.lookup_cons, beq_self_eq_true]
theorem ml_no {x : Str} (h : ((["first", "net", "past"] : List Str).map fun k => x == k) = [false, false, false]) : (mflds fs np pl).lookup x = none := by
  have e : ∀ i : Nat, ((["first", "net", "past"] : List Str).map fun k => x == k)[i]? = [false, false, false][i]? := fun i => by rw [h]
  have h0 : (x == ("first" : Str)) = false := Option.some.inj (e 0)
  have h1 : (x == ("net" : Str)) = false := Option.some.inj (e 1)
  have h2 : (x == ("past" : Str)) = false := Option.some.inj (e 2)
  unfold mflds
  rw [List.lookup_cons, h0, List.lookup_cons, h1, List.lookup_cons, h2]
  rfl
end
theorem at_last {xs : List V} {x : V} : atI (xs ++ [x]) (-1) = some x := by
  unfold atI ixN
  rw [if_neg (by decide), if_pos (by rw [List.length_append, List.length_singleton]; omega)]
  show (xs ++ [x])[((-1 : Int) + ((xs ++ [x]).length : Int)).toNat]? = some x
  rw [show ((-1 : Int) + ((xs ++ [x]).length : Int)).toNat = xs.length by rw [List.length_append, List.length_singleton]; omega, List.getElem?_append_right (Nat.le_refl _), Nat.sub_self]
  rfl
def spTurnsM (C CN CM : Addr) : Sp := fun vs H Q _ => ∃ (A : Addr → Prop) (B : Hp) (m pl : Addr) (n : NetP) (st0 : List Int) (hist : List Trn), vs = [.ref m] ∧ MachAt C CN CM A B H m pl n st0 hist ∧ Q (.int (hist.length : Nat)) H
def spStateM (C CN CM : Addr) : Sp := fun vs H Q _ => ∃ (A : Addr → Prop) (B : Hp) (m pl : Addr) (n : NetP) (st0 : List Int) (hist : List Trn), vs = [.ref m] ∧ MachAt C CN CM A B H m pl n st0 hist ∧ ∀ t, H t = some (.tup ((stOf st0 hist).map V.int)) → Q (.ref t) H
def lastN (hist : List Trn) : List Int := match hist.getLast? with
  | some r => r.nums
  | none => []
theorem lastN_snoc (ts : List Trn) (r : Trn) : lastN (ts ++ [r]) = r.nums := by
  unfold lastN
  rw [List.getLast?_concat]
def lastO (n : NetP) (hist : List Trn) : List Nat := match hist.getLast? with
  | some r => oversOf n r.nums
  | none => []
theorem lastO_snoc (n : NetP) (ts : List Trn) (r : Trn) : lastO n (ts ++ [r]) = oversOf n r.nums := by
  unfold lastO
  rw [List.getLast?_concat]
def spNumbersM (C CN CM : Addr) : Sp := fun vs H Q _ => ∃ (A : Addr → Prop) (B : Hp) (m pl : Addr) (n : NetP) (st0 : List Int) (hist : List Trn), vs = [.ref m] ∧ MachAt C CN CM A B H m pl n st0 hist ∧ ∀ l H', H l = none → Same H H' → H' l = some (.lst ((lastN hist).map V.int)) → Q (.ref l) H'
def spOversM (C CN CM : Addr) : Sp := fun vs H Q _ => ∃ (A : Addr → Prop) (B : Hp) (m pl : Addr) (n : NetP) (st0 : List Int) (hist : List Trn), vs = [.ref m] ∧ MachAt C CN CM A B H m pl n st0 hist ∧ ∀ l H', H l = none → Same H H' → H' l = some (.lst ((lastO n hist).map nI)) → Q (.ref l) H'
def spMInit (C CN CM : Addr) : Sp := fun vs H Q _ => ∃ (m dx np : Addr) (n : NetP) (v : V) (st : List Int) (B G : Hp), vs = [.ref m, .ref np, v] ∧ H m = some (.ins CM dx []) ∧ G m = none ∧ Same B G ∧ Same G H ∧ NetAt C CN B np n ∧ ((v = .non ∧ st = starts n) ∨ ∃ sa, v = .ref sa ∧ G sa = some (.tup (st.map V.int)) ∧ StOk n st) ∧
  ∀ pl H', (∀ A, MachAt C CN CM A B H' m pl n st []) → G pl = none → Same G H' → Q .non H'
theorem mf0 {a : V} : putF "first" a [] = [(("first" : Str), a)] := rfl
theorem mf1 {a b : V} : putF "net" b [(("first" : Str), a)] = [(("first" : Str), a), ("net", b)] := putF_app (show _ = true from (by decide +kernel : ((["first"] : List Str).all fun x => decide (x ≠ ("net" : Str))) = true))
theorem mf2 {a b c : V} : putF "past" c [(("first" : Str), a), ("net", b)] = [(("first" : Str), a), ("net", b), ("past", c)] := putF_app (show _ = true from (by decide +kernel : ((["first", "net"] : List Str).all fun x => decide (x ≠ ("past" : Str))) = true))
/-- a turn of a machine -/
def trn (n : NetP) (x : Int) (st : List Int) : Trn := ⟨n.nums x st, n.behind (n.nums x st)⟩
def spTurnM (C CN CM : Addr) : Sp := fun vs H Q _ => ∃ (A : Addr → Prop) (B : Hp) (m pl : Addr) (n : NetP) (st0 : List Int) (hist : List Trn) (x : Int), vs = [.ref m, .int x] ∧ MachAt C CN CM A B H m pl n st0 hist ∧ A pl ∧ (∀ y, A y → ∃ ys, H y = some (.lst ys)) ∧ inR (frm n.fs n.en).w x = true ∧ (stOf st0 hist).length = n.holds.length ∧ NumOk n x (stOf st0 hist) ∧ hist.length ≤ 2000 ∧
  ∀ H', SameBut pl H H' → MachAt C CN CM A B H' m pl n st0 (hist ++ [trn n x (stOf st0 hist)]) → Q (.int ((n.nums x (stOf st0 hist)).getD n.out 0)) H'
section
variable {P : Program} {w : World} {K : PySem.W.Frag} {mg : Str → Option Value} {base : Heap}
abbrev s_Machine___init__ : Stmt := inClass (topS 80) 0
abbrev s_Machine_turn : Stmt := inClass (topS 80) 1
abbrev s_Machine_turns : Stmt := inClass (topS 80) 2
abbrev s_Machine_state : Stmt := inClass (topS 80) 3
abbrev s_Machine_numbers : Stmt := inClass (topS 80) 4
abbrev s_Machine_overs : Stmt := inClass (topS 80) 5
abbrev s_Machine_went : Stmt := inClass (topS 80) 6
abbrev s_Machine_back : Stmt := inClass (topS 80) 7
abbrev s_Machine_twin : Stmt := inClass (topS 80) 8
theorem sc_Machine_turns : FnScope ["self"] ["self"] (defScope s_Machine_turns) := ⟨rfl, rfl, rfl, by decide +kernel, rfl, by decide +kernel, by decide +kernel⟩
theorem ok_Machine_turns {f : Addr} {fd : FuncData} {k : Nat} {C CN CM : Addr} (TM : MTxt K mg CM) (F : Fun K "turns" "Machine.turns" s_Machine_turns f fd) (z : Zs mg) : FnOk P w K mg base CX0 (k + 1) f fd ["self"] (spTurnsM C CN CM) := by
  refine F.ok sc_Machine_turns (fun vs H Q E h => ?_) (fun cdv A outer s H vs Q E hr h => ?_)
  · obtain ⟨A0, B, m, pl, n, st0, hist, rfl, _⟩ := h
    rfl
  · obtain ⟨A0, B, m, pl, n, st0, hist, rfl, ⟨dx, fs, np, pvs, b⟩, q⟩ := h
    refine ⟨_, (pss_one (ps_ret (pe_callB call_len_seq (by rfl) z.len PySem.boot_len (pa_cons (pe_fld (pv 0) rfl) pa_nil)))), ?_⟩
    have e := b.ps.len
    refine ⟨_, rfl, m, CM, dx, _, _, rfl, b.ob, TM.cl, TM.n_past, ml_p, pl, _, rfl, .inl (SqL.of b.pa), ?_⟩
    rw [e]
    exact q
theorem sc_Machine_state : FnScope ["self"] ["self"] (defScope s_Machine_state) := ⟨rfl, rfl, rfl, by decide +kernel, rfl, by decide +kernel, by decide +kernel⟩
theorem ok_Machine_state {f : Addr} {fd : FuncData} {k : Nat} {C CN CM : Addr} (TM : MTxt K mg CM) (F : Fun K "state" "Machine.state" s_Machine_state f fd) : FnOk P w K mg base CX0 (k + 1) f fd ["self"] (spStateM C CN CM) := by
  refine F.ok sc_Machine_state (fun vs H Q E h => ?_) (fun cdv A outer s H vs Q E hr h => ?_)
  · obtain ⟨A0, B, m, pl, n, st0, hist, rfl, _⟩ := h
    rfl
  · obtain ⟨A0, B, m, pl, n, st0, hist, rfl, ⟨dx, fs, np, pvs, b⟩, q⟩ := h
    refine ⟨_, (pss_one (ps_ret (pe_ifExp (pt_truth (pe_fld (pv 0) rfl) (by intro _; rfl)) (pe_ix ix_tup (pe_ix ix_list (pe_fld (pv 0) rfl) (pe_un un_neg pe_int) (fun _ _ => rfl)) pe_int (fun _ _ => rfl)) (pe_fld (pv 0) rfl)))), ?_⟩
    rcases b.ps.last with ⟨rfl, rfl⟩ | ⟨vs', ts', t, l, o, s, r, rfl, rfl, ht, hl, ho, hs⟩
    · exact ⟨_, rfl, m, CM, dx, _, _, rfl, b.ob, TM.cl, TM.n_past, ml_p, false, .inl ⟨_, SqL.of b.pa, rfl⟩, iteF ⟨_, rfl, m, CM, dx, _, _, rfl, b.ob, TM.cl, TM.n_first, ml_f, q fs b.fs⟩⟩
    · refine ⟨_, rfl, m, CM, dx, _, _, rfl, b.ob, TM.cl, TM.n_past, ml_p, true, .inl ⟨_, SqL.of b.pa, by cases vs' <;> rfl⟩, iteT ⟨_, rfl, m, CM, dx, _, _, rfl, b.ob, TM.cl, TM.n_past, ml_p, _, rfl, pl, _, _, .ref t, rfl, rfl, SqL.of b.pa, at_last, t, _, 2, .ref s, rfl, rfl, SqT.of ht, a2, q s ?_⟩⟩
      rw [stOf_snoc]
      exact hs
theorem sc_Machine_numbers : FnScope ["self"] ["self"] (defScope s_Machine_numbers) := ⟨rfl, rfl, rfl, by decide +kernel, rfl, by decide +kernel, by decide +kernel⟩
theorem ok_Machine_numbers {f : Addr} {fd : FuncData} {k : Nat} {C CN CM : Addr} (TM : MTxt K mg CM) (F : Fun K "numbers" "Machine.numbers" s_Machine_numbers f fd) (z : Zs mg) : FnOk P w K mg base CX0 (k + 1) f fd ["self"] (spNumbersM C CN CM) := by
  refine F.ok sc_Machine_numbers (fun vs H Q E h => ?_) (fun cdv A outer s H vs Q E hr h => ?_)
  · obtain ⟨A0, B, m, pl, n, st0, hist, rfl, _⟩ := h
    rfl
  · obtain ⟨A0, B, m, pl, n, st0, hist, rfl, ⟨dx, fs, np, pvs, b⟩, q⟩ := h
    refine ⟨_, (pss_one (ps_ret (pe_ifExp (pt_truth (pe_fld (pv 0) rfl) (by intro _; rfl)) (pe_callTy call_list_of (by rfl) z.list (by decide +kernel) (pa_cons (pe_ix ix_tup (pe_ix ix_list (pe_fld (pv 0) rfl) (pe_un un_neg pe_int) (fun _ _ => rfl)) pe_int (fun _ _ => rfl)) pa_nil)) (pe_lst pa_nil)))), ?_⟩
    rcases b.ps.last with ⟨rfl, rfl⟩ | ⟨vs', ts', t, l, o, s, r, rfl, rfl, ht, hl, ho, hs⟩
    · refine ⟨_, rfl, m, CM, dx, _, _, rfl, b.ob, TM.cl, TM.n_past, ml_p, false, .inl ⟨_, SqL.of b.pa, rfl⟩, iteF ⟨(by show 0 ≤ sizeLine; decide), fun l hl => ?_⟩⟩
      generalize hG : upd _ l _ = G
      obtain ⟨s, h_l⟩ := upd_gen hG hl
      exact q l G hl s h_l
    · refine ⟨_, rfl, m, CM, dx, _, _, rfl, b.ob, TM.cl, TM.n_past, ml_p, true, .inl ⟨_, SqL.of b.pa, by cases vs' <;> rfl⟩, iteT ⟨_, rfl, m, CM, dx, _, _, rfl, b.ob, TM.cl, TM.n_past, ml_p, _, rfl, pl, _, _, .ref t, rfl, rfl, SqL.of b.pa, at_last, t, _, 0, .ref l, rfl, rfl, SqT.of ht, a0, _, _, rfl, .inl (SqL.of hl), fun l2 hl2 => ?_⟩⟩
      generalize hG : upd _ l2 _ = G
      obtain ⟨s, h_l⟩ := upd_gen hG hl2
      rw [lastN_snoc] at q
      exact q l2 G hl2 s h_l
theorem sc_Machine_overs : FnScope ["self"] ["self"] (defScope s_Machine_overs) := ⟨rfl, rfl, rfl, by decide +kernel, rfl, by decide +kernel, by decide +kernel⟩
theorem ok_Machine_overs {f : Addr} {fd : FuncData} {k : Nat} {C CN CM : Addr} (TM : MTxt K mg CM) (F : Fun K "overs" "Machine.overs" s_Machine_overs f fd) (z : Zs mg) : FnOk P w K mg base CX0 (k + 1) f fd ["self"] (spOversM C CN CM) := by
  refine F.ok sc_Machine_overs (fun vs H Q E h => ?_) (fun cdv A outer s H vs Q E hr h => ?_)
  · obtain ⟨A0, B, m, pl, n, st0, hist, rfl, _⟩ := h
    rfl
  · obtain ⟨A0, B, m, pl, n, st0, hist, rfl, ⟨dx, fs, np, pvs, b⟩, q⟩ := h
    refine ⟨_, (pss_one (ps_ret (pe_ifExp (pt_truth (pe_fld (pv 0) rfl) (by intro _; rfl)) (pe_callTy call_list_of (by rfl) z.list (by decide +kernel) (pa_cons (pe_ix ix_tup (pe_ix ix_list (pe_fld (pv 0) rfl) (pe_un un_neg pe_int) (fun _ _ => rfl)) pe_int (fun _ _ => rfl)) pa_nil)) (pe_lst pa_nil)))), ?_⟩
    rcases b.ps.last with ⟨rfl, rfl⟩ | ⟨vs', ts', t, l, o, s, r, rfl, rfl, ht, hl, ho, hs⟩
    · refine ⟨_, rfl, m, CM, dx, _, _, rfl, b.ob, TM.cl, TM.n_past, ml_p, false, .inl ⟨_, SqL.of b.pa, rfl⟩, iteF ⟨(by show 0 ≤ sizeLine; decide), fun l hl => ?_⟩⟩
      generalize hG : upd _ l _ = G
      obtain ⟨s, h_l⟩ := upd_gen hG hl
      exact q l G hl s h_l
    · refine ⟨_, rfl, m, CM, dx, _, _, rfl, b.ob, TM.cl, TM.n_past, ml_p, true, .inl ⟨_, SqL.of b.pa, by cases vs' <;> rfl⟩, iteT ⟨_, rfl, m, CM, dx, _, _, rfl, b.ob, TM.cl, TM.n_past, ml_p, _, rfl, pl, _, _, .ref t, rfl, rfl, SqL.of b.pa, at_last, t, _, 1, .ref o, rfl, rfl, SqT.of ht, a1, _, _, rfl, .inl (SqL.of ho), fun l2 hl2 => ?_⟩⟩
      generalize hG : upd _ l2 _ = G
      obtain ⟨s, h_l⟩ := upd_gen hG hl2
      rw [lastO_snoc] at q
      exact q l2 G hl2 s h_l
theorem sc_Machine_turn : FnScope ["self", "word", "numbers", "after"] ["self", "word"] (defScope s_Machine_turn) := ⟨rfl, rfl, rfl, by decide +kernel, rfl, by decide +kernel, by decide +kernel⟩
theorem ok_Machine_turn {f : Addr} {fd : FuncData} {C CN CM : Addr} (TN : NTxt K mg CN) (TM : MTxt K mg CM) (F : Fun K "turn" "Machine.turn" s_Machine_turn f fd) (n_out : CalM P w K mg base 1 CN "out" ["self"] (spOutM C CN)) (x_state : CalM P w K mg base 1 CM "state" ["self"] (spStateM C CN CM)) (c_check_word : Cal P w K mg base 3 "check_word" ["net", "word"] (spCkWord C CN)) (c_turn_of : Cal P w K mg base 8 "turn_of" ["net", "state", "word"] (spTurnOf C CN)) (c_overs_machines : Cal P w K mg base 7 "overs_machines" ["net", "numbers"] (spOvers C CN)) : FnOk P w K mg base CX0 9 f fd ["self", "word"] (spTurnM C CN CM) := by
  refine F.ok sc_Machine_turn (fun vs H Q E h => ?_) (fun cdv A outer s H vs Q E hr h => ?_)
  · obtain ⟨A0, B, m, pl, n, st0, hist, x, rfl, _⟩ := h
    rfl
  · obtain ⟨A0, B, m, pl, n, st0, hist, x, rfl, ⟨dx, fs, np, pvs, b⟩, apl, lists, xin, hls, ko, h2000, q⟩ := h
    refine ⟨_, (pss_cons (ps_expr (pe_cal c_check_word hr (pa_cons (pe_fld (pv 0) rfl) (pa_cons (pv 1) pa_nil))))
      (pss_cons (ps_asg (pe_cal c_turn_of hr (pa_cons (pe_fld (pv 0) rfl) (pa_cons (pe_calm0 (pv 0) TM.cl x_state hr) (pa_cons (pv 1) pa_nil)))) (pg_tup (by rfl) (pgs_cons (pg_name (i := 2) sc_Machine_turn.nd rfl (.inl rfl)) (pgs_cons (pg_name (i := 3) sc_Machine_turn.nd rfl (.inl rfl)) pgs_nil))))
      (pss_cons (ps_expr (pe_bm PySem.F.plainAttrs_list PySem.F.slot_list_append PySem.F.type_list_append mt_append (pe_fld (pv 0) rfl) (pa_cons (pe_tup (pa_cons (pv 2) (pa_cons (pe_cal c_overs_machines hr (pa_cons (pe_fld (pv 0) rfl) (pa_cons (pv 2) pa_nil))) (pa_cons (pv 3) pa_nil)))) pa_nil)))
      (pss_one (ps_ret (pe_ix ix_list (pv 2) (pe_calm0 (pe_fld (pv 0) rfl) TN.cl n_out hr) (fun _ _ => rfl))))))), ?_⟩
    have ok := b.net.1
    refine ⟨_, rfl, m, CM, dx, _, _, rfl, b.ob, TM.cl, TM.n_net, ml_n, _, rfl, np, n, x, rfl, b.net.same b.bs, xin, fun H1 s1 => ?_⟩
    have b1 := b.same s1
    refine ⟨_, rfl, m, CM, dx, _, _, rfl, b1.ob, TM.cl, TM.n_net, ml_n, _, rfl, m, dx, _, rfl, b1.ob, ml_no (by decide +kernel), _, _, m, pl, n, st0, hist, rfl, ⟨dx, fs, np, pvs, b1⟩, fun st hst => ?_⟩
    refine ⟨_, rfl, np, st, n, x, _, rfl, b1.net.same b1.bs, hst, hls, ko, fun tt l s H2 s2 ht0 hl0 hs0 h_t h_l h_s => ⟨tt, _, rfl, SqT.of h_t, rfl, _, _, rfl, _, _, rfl, rfl, ?_⟩⟩
    have b2 := b1.same s2
    have no : NumsOk n (n.nums x (stOf st0 hist)) := ⟨nums_len _ _ _, fun k hk => ko k hk⟩
    refine ⟨_, rfl, m, CM, dx, _, _, rfl, b2.ob, TM.cl, TM.n_past, ml_p, .inl ⟨rfl, _, SqL.of b2.pa⟩, _, rfl, _, rfl, m, CM, dx, _, _, rfl, b2.ob, TM.cl, TM.n_net, ml_n, _, rfl, np, l, n, _, rfl, b2.net.same b2.bs, h_l, no, fun o H3 ho0 s3 h_o => ?_⟩
    have b3 := b2.same s3
    refine ⟨_, rfl, (by show 3 ≤ sizeLine; decide), fun t3 ht3 => ?_⟩
    generalize hG : upd _ t3 _ = H4
    obtain ⟨s4, h_t3⟩ := upd_gen hG ht3
    have b4 := b3.same s4
    have lp := b4.ps.len
    have nl : ¬ A0 l := fun z => by
      obtain ⟨ys, e⟩ := lists l z
      have := s1 _ _ e
      rw [hl0] at this
      cases this
    have no' : ¬ A0 o := fun z => by
      obtain ⟨ys, e⟩ := lists o z
      have := (s1.trans s2) _ _ e
      rw [ho0] at this
      cases this
    refine ⟨pl, _, _, rfl, rfl, b4.pa, sl_lt (by omega), ?_⟩
    generalize hG5 : upd _ pl _ = H5
    obtain ⟨s5, h_pl⟩ := upd_but hG5
    have hl5 := s5 l _ (fun z => nl (by rw [z]; exact apl)) (s4 _ _ (s3 _ _ h_l))
    have P : PsAt n A0 H5 (pvs ++ [.ref t3]) (hist ++ [trn n x (stOf st0 hist)]) := .snoc (b4.ps.keep s5 apl b4.pa) (s5 _ _ (ne_of h_t3 b4.pa (fun z => nomatch z)) h_t3) hl5 (s5 o _ (fun z => no' (by rw [z]; exact apl)) (s4 _ _ h_o)) (s5 _ _ (ne_of (s4 _ _ (s3 _ _ h_s)) b4.pa (fun z => nomatch z)) (s4 _ _ (s3 _ _ h_s))) nl no'
    have b5 : MB C CN CM A0 B H5 m pl n st0 (hist ++ [trn n x (stOf st0 hist)]) dx fs np (pvs ++ [.ref t3]) := ⟨s5 _ _ (ne_of b4.ob b4.pa (fun z => nomatch z)) b4.ob, b.bm, b.bp, same_but b4.bs s5 b.bp, b.net, s5 _ _ (ne_of b4.fs b4.pa (fun z => nomatch z)) b4.fs, h_pl, P⟩
    have N5 := b5.net.same b5.bs
    obtain ⟨_, dxn, fl, rl, hl, ppl, fv, rv, hv, nb⟩ := id N5
    refine ⟨_, rfl, _, rfl, m, CM, dx, _, _, rfl, b5.ob, TM.cl, TM.n_net, ml_n, np, dxn, _, rfl, nb.ob, nl_no (by decide +kernel), np, n, rfl, N5, l, _, _, _, rfl, rfl, SqL.of hl5, ints_at (by rw [nums_len]; exact ok.out), q H5 (((SameBut.of (((s1.trans s2).trans s3).trans s4))).trans s5) ⟨dx, fs, np, _, b5⟩⟩
theorem sc_Machine___init__ : FnScope ["self", "net", "state"] ["self", "net", "state"] (defScope s_Machine___init__) := ⟨rfl, rfl, rfl, by decide +kernel, rfl, by decide +kernel, by decide +kernel⟩
theorem ok_Machine___init__ {f : Addr} {fd : FuncData} {C CN CM : Addr} (TM : MTxt K mg CM) {dvs : List V} (F : FunD K "__init__" "Machine.__init__" (defArgs s_Machine___init__) (defBody s_Machine___init__) (defScope s_Machine___init__) dvs [] f fd) (c_first_state : Cal P w K mg base 5 "first_state" ["net", "state"] (spFirst C CN)) : FnOk P w K mg base CX0 6 f fd ["self", "net", "state"] (spMInit C CN CM) := by
  refine F.ok sc_Machine___init__ (fun vs H Q E h => ?_) (fun cdv A outer s H vs Q E hr h => ?_)
  · obtain ⟨m, dx, np, n, v, st, B, G0, rfl, _⟩ := h
    rfl
  · obtain ⟨m, dx, np, n, v, st, B, G0, rfl, hm, gm, bg, gs, hn, hv, q⟩ := h
    have bs := bg.trans gs
    refine ⟨_, PSs.nox (pss_cons (ps_fld (pv 0) (pe_cal c_first_state hr (pa_cons (pv 1) (pa_cons (pv 2) pa_nil))) rfl)
      (pss_cons (ps_fld (pv 0) (pv 1) rfl)
      (pss_one (ps_fld (pv 0) (pe_lst pa_nil) rfl)))), ?_⟩
    refine ⟨_, rfl, _, rfl, np, n, v, st, rfl, hn.same bs, (hv.imp id fun ⟨sa, e1, e2, e3⟩ => ⟨sa, e1, gs _ _ e2, e3⟩), fun fs H1 s1 h_fs => ?_⟩
    have nf : fs ≠ m := ne_of h_fs (s1 _ _ hm) (fun z => nomatch z)
    refine ⟨_, rfl, m, CM, dx, _, rfl, s1 _ _ hm, TM.cl, TM.n_first, (by show 0 < 1000; decide), ?_⟩
    generalize hG : upd _ m _ = H2
    obtain ⟨s2, hm2⟩ := upd_but hG
    rw [mf0] at hm2
    refine ⟨_, rfl, _, rfl, m, CM, dx, _, rfl, hm2, TM.cl, TM.n_net, (by show 1 < 1000; decide), ?_⟩
    generalize hG3 : upd _ m _ = H3
    obtain ⟨s3, hm3⟩ := upd_but hG3
    rw [mf1] at hm3
    refine ⟨(by show 0 ≤ sizeLine; decide), fun pl hpl => ?_⟩
    generalize hG4 : upd _ pl _ = H4
    obtain ⟨s4, h_pl⟩ := upd_gen hG4 hpl
    have np' : pl ≠ m := (ne_of_none hm3 hpl).symm
    refine ⟨_, rfl, m, CM, dx, _, rfl, s4 _ _ hm3, TM.cl, TM.n_past, (by show 2 < 1000; decide), ?_⟩
    generalize hG5 : upd _ m _ = H5
    obtain ⟨s5, hm5⟩ := upd_but hG5
    rw [mf2] at hm5
    have SB : SameBut m H1 H5 := s2.trans (s3.trans ((SameBut.of s4).trans s5))
    have S5 : Same G0 H5 := same_but (gs.trans s1) SB gm
    have fpl : G0 pl = none := by
      refine Same.free (gs.trans s1) ?_
      cases e : H1 pl with
      | none => rfl
      | some o =>
        have := (s2.trans s3) _ _ np' e
        rw [hpl] at this
        cases this
    exact q pl H5 (fun A => ⟨dx, fs, np, [], hm5, bg.free gm, bg.free fpl, bg.trans S5, hn, SB _ _ nf h_fs, s5 _ _ np' h_pl, .nil⟩) fpl S5
end
end E1

namespace E1
open PySem PySem.Spec PyProof.Rows L2
/-- a kept number is a word of its form -/
theorem word_in {w : Option Int} (hw : WOk w) (st : Bool) (v : Int) : inR w (wordF w st v) = true := by
  cases w with
  | none => rfl
  | some y =>
    obtain ⟨y0, y1⟩ := hw y rfl
    have e := two_succ (x := y) (by omega)
    have r0 := two_pos (y - 1)
    show (decide (lst y ≤ if inR (some y) v = true then v else if st = true then (if v < 0 then lst y else grt y) else (v - lst y) % two y + lst y) && decide ((if inR (some y) v = true then v else if st = true then (if v < 0 then lst y else grt y) else (v - lst y) % two y + lst y) ≤ grt y)) = true
    rw [Bool.and_eq_true, decide_eq_true_eq, decide_eq_true_eq]
    by_cases c : inR (some y) v = true
    · rw [if_pos c]
      unfold inR at c
      rw [Bool.and_eq_true, decide_eq_true_eq, decide_eq_true_eq] at c
      exact c
    · rw [if_neg c]
      have m0 := Int.emod_nonneg (v - lst y) (show two y ≠ 0 by omega)
      have m1 := Int.emod_lt_of_pos (v - lst y) (show 0 < two y by omega)
      unfold lst grt at *
      rw [e] at *
      generalize two (y - 1) = t at *
      generalize (v - -t) % (2 * t) = u at *
      cases st with
      | true =>
        rw [if_pos rfl]
        split <;> omega
      | false =>
        rw [if_neg (by decide)]
        omega
/-- the state behind a turn is a state -/
theorem behind_ok {n : NetP} (ok : NetOk n) (x : Int) (st : List Int) : StOk n (n.behind (n.nums x st)) := by
  refine ⟨by unfold NetP.behind; rw [List.length_map], fun i h k e1 e2 => ?_⟩
  unfold NetP.behind at e2
  rw [List.getElem?_map, e1] at e2
  cases e2
  obtain ⟨hf, _, b, eb⟩ := ok.ho h (List.mem_of_getElem? e1)
  have e := accL_at (g := numRow n.fs n.pts x st) eb
  have e3 : (n.nums x st).getD h.l 0 = numRow n.fs n.pts x st (accL (numRow n.fs n.pts x st) (n.rows.take h.l)) (.keep h.k b) := by
    unfold NetP.nums
    rw [List.getD_eq_getElem?_getD, e]
    rfl
  show inR (frm n.fs h.k).w ((n.nums x st).getD h.l 0) = true
  rw [e3]
  have efr := frm_at (List.getElem?_eq_getElem hf)
  refine word_in ?_ _ _
  rw [efr]
  exact (ok.fo _ (List.getElem_mem hf)).wo
theorem starts_ok {n : NetP} (ok : NetOk n) : StOk n (starts n) := ⟨List.length_map .., fun i h2 k2 e1 e2 => by
  unfold starts at e2
  rw [List.getElem?_map, e1] at e2
  cases e2
  have hk := ok.ho h2 (List.mem_of_getElem? e1)
  have ef := List.getElem?_eq_getElem hk.1
  rw [frm_at ef]
  exact hk.2.1 _ ef⟩
theorem tup_shaped (ns : List Int) : SeqAt.shaped (.tuple (ns.map PyData.int)) = true := by
  simp [PySem.W.ke_canLayAll0, PySem.W.ke_depthAll, SeqAt.shaped, PyData.depth, PyData.canLay0]
theorem eqv_of {d : PyData} (h : SeqAt.shaped d = true) : PyData.eqv d d = true := SeqAt.eqv_refl _ (SeqAt.canLay_of_shaped h)
end E1

namespace E1
open PySem PySem.Spec PyProof.Rows L2
theorem walk_w {J : It} {n : Nat} {G : Hp → Prop} {Y : Nat → Hp → V → Hp → Prop} (wk : Walk J n G Y) {T : V → Hp → (Hp → Prop) → Prop} {H0 : Hp} {Qd : Hp → Prop} (Pv : Nat → Hp → Prop) (h0 : Pv 0 H0) (hG : ∀ i H, i ≤ n → Pv i H → G H)
    (hs : ∀ i x H H', i < n → Pv i H → Y i H x H' → T x H' (Pv (i + 1))) (hd : ∀ H, Pv n H → Qd H) :
    ∃ W : Nat → Nat → Hp → Prop, (∃ m, W 0 m H0) ∧ ∀ i m H, W i m H → (J.stop i H ∧ Qd H) ∨ (J.go i H ∧ ∃ Nx : Hp → Prop, (∀ H', Nx H' → ∃ m', m' < m ∧ W (i + 1) m' H') ∧ ∀ x H', J.yld i H x H' → T x H' Nx) := by
  refine ⟨fun i m G' => i + m = n ∧ Pv i G', ⟨n, Nat.zero_add n, h0⟩, fun i m G' ⟨e, p⟩ => ?_⟩
  have good := hG i G' (by omega) p
  cases m with
  | zero =>
    have e' : i = n := by omega
    subst e'
    exact .inl ⟨wk.stops G' good, hd G' p⟩
  | succ m =>
    have hi : i < n := by omega
    exact .inr ⟨wk.goes i G' hi good, Pv (i + 1), fun G2 p2 => ⟨m, by omega, by omega, p2⟩, fun x G2 y => hs i x G' G2 hi p (wk.yields i G' x G2 hi good y)⟩

theorem PsAt.get {n : NetP} {A : Addr → Prop} {H : Hp} {vs : List V} {ts : List Trn} (h : PsAt n A H vs ts) : ∀ {i : Nat} {v : V}, vs[i]? = some v → ∃ t l o s r, v = .ref t ∧ ts[i]? = some r ∧ H t = some (.tup [.ref l, .ref o, .ref s]) ∧ H l = some (.lst (r.nums.map V.int)) ∧ H o = some (.lst ((oversOf n r.nums).map nI)) ∧ H s = some (.tup (r.aft.map V.int)) := by
  induction h with
  | nil => intro i v z; cases z
  | @snoc vs ts t l o s r p ht hl ho hs _ _ ih =>
    intro i v z
    have e := p.len
    by_cases c : i < vs.length
    · rw [List.getElem?_append_left c] at z
      rw [List.getElem?_append_left (by omega)]
      exact ih z
    · rw [List.getElem?_append_right (by omega)] at z
      rw [List.getElem?_append_right (by omega)]
      have c0 : i - vs.length = 0 := by
        have := (List.getElem?_eq_some_iff.mp z).1
        rw [List.length_singleton] at this
        omega
      rw [c0] at z
      rw [show i - ts.length = 0 by omega]
      cases z
      exact ⟨t, l, o, s, r, rfl, rfl, ht, hl, ho, hs⟩
theorem PsAt.take {n : NetP} {A : Addr → Prop} {H : Hp} {vs : List V} {ts : List Trn} (h : PsAt n A H vs ts) (k : Nat) : PsAt n A H (vs.take k) (ts.take k) := by
  induction h with
  | nil =>
    rw [List.take_nil, List.take_nil]
    exact .nil
  | @snoc vs ts t l o s r p ht hl ho hs nl no ih =>
    have e := p.len
    by_cases c : k ≤ vs.length
    · rw [List.take_append_of_le_length c, List.take_append_of_le_length (by omega)]
      exact ih
    · rw [List.take_of_length_le (by rw [List.length_append, List.length_singleton]; omega), List.take_of_length_le (by rw [List.length_append, List.length_singleton]; omega)]
      exact .snoc p ht hl ho hs nl no
theorem PsAt.butI {n : NetP} {A : Addr → Prop} {x C dx : Addr} {fl : List (Str × V)} {H H' : Hp} {vs : List V} {ts : List Trn} (h : PsAt n A H vs ts) (s : SameBut x H H') (hx : H x = some (.ins C dx fl)) : PsAt n A H' vs ts := by
  induction h with
  | nil => exact .nil
  | snoc _ ht hl ho hs nl no ih => exact .snoc ih (s _ _ (ne_of ht hx (fun z => nomatch z)) ht) (s _ _ (ne_of hl hx (fun z => nomatch z)) hl) (s _ _ (ne_of ho hx (fun z => nomatch z)) ho) (s _ _ (ne_of hs hx (fun z => nomatch z)) hs) nl no
/-- what went over in the first turns: (turn, row) -/
def wentTo (n : NetP) (hist : List Trn) : Nat → List (Nat × Nat)
  | 0 => []
  | i + 1 => wentTo n hist i ++ (match hist[i]? with
    | some r => (oversOf n r.nums).map fun q => (i + 1, q)
    | none => [])
def pairV (p : Nat × Nat) : List V := [nI p.1, nI p.2]
theorem wentTo_len (n : NetP) (ok : NetOk n) (hist : List Trn) : ∀ i, (wentTo n hist i).length ≤ 60 * i
  | 0 => Nat.le_refl _
  | i + 1 => by
    have := wentTo_len n ok hist i
    unfold wentTo
    rw [List.length_append]
    have r60 := ok.r2
    cases hist[i]? with
    | none =>
      rw [List.length_nil]
      omega
    | some r =>
      rw [List.length_map]
      have : (oversOf n r.nums).length ≤ n.rows.length := by
        refine Nat.le_trans (List.length_filter_le _ _) ?_
        rw [List.length_range]
        exact Nat.le_refl _
      omega
def spWentM (C CN CM : Addr) : Sp := fun vs H Q _ => ∃ (A : Addr → Prop) (B : Hp) (m pl : Addr) (n : NetP) (st0 : List Int) (hist : List Trn), vs = [.ref m] ∧ MachAt C CN CM A B H m pl n st0 hist ∧ hist.length ≤ 1200 ∧ ∀ l H', H l = none → Same H H' → TL7 H' l ((wentTo n hist hist.length).map pairV) → Q (.ref l) H'
/-- another list of turns -/
def spBackM (C CN CM : Addr) : Sp := fun vs H Q _ => ∃ (A : Addr → Prop) (B : Hp) (m pl : Addr) (n : NetP) (st0 : List Int) (hist : List Trn) (k : Nat), vs = [.ref m, .int k] ∧ MachAt C CN CM A B H m pl n st0 hist ∧ k ≤ hist.length ∧ hist.length ≤ 2000 ∧
  ∀ pl' H', H pl' = none → SameBut m H H' → MachAt C CN CM (fun y => A y ∨ y = pl') B H' m pl' n st0 (hist.take (hist.length - k)) → Q .non H'
theorem mf3 {a b c d : V} : putF "past" d [(("first" : Str), a), ("net", b), ("past", c)] = [(("first" : Str), a), ("net", b), ("past", d)] := rfl
theorem cut_to2 {zs : List V} {m : Nat} : cutV zs none (some (m : Int)) = zs.take m := by
  unfold cutV
  rw [HT.sIx_none, HT.sIx_nat, List.drop_zero, Nat.sub_zero]
  by_cases h : m ≤ zs.length
  · rw [Nat.min_eq_left h]
  · rw [Nat.min_eq_right (by omega), List.take_of_length_le (i := zs.length) (Nat.le_refl _), List.take_of_length_le (i := m) (by omega)]
section
variable {P : Program} {w : World} {K : PySem.W.Frag} {mg : Str → Option Value} {base : Heap}
theorem sc_Machine_went : FnScope ["self", "at", "made", "row"] ["self"] (defScope s_Machine_went) := ⟨rfl, rfl, rfl, by decide +kernel, rfl, by decide +kernel, by decide +kernel⟩
theorem ok_Machine_went {f : Addr} {fd : FuncData} {k : Nat} {C CN CM : Addr} (TM : MTxt K mg CM) (F : Fun K "went" "Machine.went" s_Machine_went f fd) (z : Zs mg) : FnOk P w K mg base CX0 (k + 1) f fd ["self"] (spWentM C CN CM) := by
  refine F.ok sc_Machine_went (fun vs H Q E h => ?_) (fun cdv A outer s H vs Q E hr h => ?_)
  · obtain ⟨A0, B, m, pl, n, st0, hist, rfl, _⟩ := h
    rfl
  · obtain ⟨A0, B, m, pl, n, st0, hist, rfl, ⟨dx, fs, np, pvs, b⟩, l1200, q⟩ := h
    refine ⟨_, (pss_one (ps_ret (pe_lc2 (own := [("at", 1), ("made", 2), ("row", 3)]) (vs1 := [3]) (g := gTup K 2 (gCons (gName 1) (gCons (gName 2) gNil))) (g1 := gName 3) (tt := tYes) (tt1 := tYes) (wi1 := iList K (tOp (rIxT K) (tVar 2) (tC (.int 1)))) (te := (tTup (tCons (tOp (rI0 fun i j => V.int (i + j)) (tVar 1) (tC (.int 1))) (tCons (tVar 3) tNil)))) (by rfl) sc_Machine_went.nd (pi_enum (by rfl) z.enumerate (pa_cons (pe_fld (pv 0) rfl) pa_nil)) (blkOk_by (own := [("at", 1), ("made", 2), ("row", 3)]) (N := ["self", "at", "made", "row"]) (sc := defScope s_Machine_went) (by decide +kernel)) (by decide) (fun _ _ _ _ _ => by exact (pg_tup (by rfl) (pgs_cons (pg_name (i := 1) sc_Machine_went.nd rfl (.inl rfl)) (pgs_cons (pg_name (i := 2) sc_Machine_went.nd rfl (.inl rfl)) pgs_nil)))) (fun _ _ _ _ _ => by exact pts_nil) (fun _ _ _ _ _ => by exact (pi_list (pe_ix ix_tup (pv 2) pe_int (fun _ _ => rfl)))) (fun _ _ _ _ _ => by exact (pg_name (i := 3) sc_Machine_went.nd rfl (.inl rfl))) (fun _ _ _ _ _ => by exact pts_nil) (fun _ _ _ _ _ => by exact (pe_tup (pa_cons (pe_op op_add (pv 1) pe_int) (pa_cons (pv 3) pa_nil))))))), ?_⟩
    have lp := b.ps.len
    have ok := b.net.1
    have r60 := ok.r2
    refine ⟨_, rfl, m, CM, dx, _, _, rfl, b.ob, TM.cl, TM.n_past, ml_p, pl, _, rfl, SqL.of b.pa, fun D hD => ?_⟩
    refine walk_w (walk_enum (K := K) (a := pl) (xs := pvs)) (fun i G => Same H G ∧ ∃ ws, G D = some (.lst ws) ∧ TsAt G ws ((wentTo n hist i).map pairV)) ⟨same_new hD, [], upd_same, .nil⟩ (fun i G _ hP => SqL.of (hP.1 _ _ b.pa)) (fun i x G G' hi hP hY => ?_) (fun G hP => ?_)
    · obtain ⟨s, ws, hd, tw⟩ := hP
      obtain ⟨Tp, u, v', rfl, nT, rfl, e1, e2⟩ := hY
      cases e1
      obtain ⟨t, l, o, sA, r, rfl, er, ht, hl, ho, hs⟩ := b.ps.get e2
      have sN := s.trans (same_new (o := .tup [.int (i : Nat), .ref t]) nT)
      have hd2 := (same_new (o := .tup [.int (i : Nat), .ref t]) nT) _ _ hd
      have tw2 := tw.same (same_new (o := .tup [.int (i : Nat), .ref t]) nT)
      have hT : (upd G Tp (.tup [.int (i : Nat), .ref t])) Tp = some (.tup [.int (i : Nat), .ref t]) := upd_same
      generalize upd G Tp (.tup [.int (i : Nat), .ref t]) = G1 at sN hd2 tw2 hT ⊢
      refine ⟨Tp, _, rfl, SqT.of hT, rfl, _, _, rfl, _, _, rfl, rfl, ?_⟩
      refine ⟨rfl, _, rfl, t, _, 1, .ref o, rfl, rfl, SqT.of (sN _ _ ht), a1, o, rfl, ⟨_, SqL.of (sN _ _ ho)⟩, ?_⟩
      have wl := wentTo_len n ok hist i
      have ol : (oversOf n r.nums).length ≤ n.rows.length := by
        refine Nat.le_trans (List.length_filter_le _ _) ?_
        rw [List.length_range]
        exact Nat.le_refl _
      refine walk_w (walk_list (K := K) (a := o) (xs := (oversOf n r.nums).map nI)) (fun j G2 => Same H G2 ∧ ∃ ws, G2 D = some (.lst ws) ∧ TsAt G2 ws ((wentTo n hist i ++ ((oversOf n r.nums).take j).map fun q => (i + 1, q)).map pairV)) ⟨sN, ws, hd2, by rw [List.take_zero, List.map_nil, List.append_nil]; exact tw2⟩ (fun j G2 _ hP => SqL.of (hP.1 _ _ ho)) (fun j y G2 G3 hj hP hY => ?_) (fun G2 hP => ?_)
      · obtain ⟨s2, ws2, hd3, tw3⟩ := hP
        obtain ⟨rfl, ex⟩ := hY
        rw [List.getElem?_map] at ex
        obtain ⟨q0, eq0, rfl⟩ := Option.map_eq_some_iff.mp ex
        have jl := (List.getElem?_eq_some_iff.mp eq0).1
        have lw := tw3.len
        rw [List.length_map, List.length_append, List.length_map, List.length_take] at lw
        refine ⟨rfl, _, rfl, _, _, rfl, rfl, _, rfl, (by show 2 ≤ sizeLine; decide), fun p hp => ?_⟩
        generalize hG4 : upd _ p _ = G4
        obtain ⟨s4, h_p⟩ := upd_gen hG4 hp
        refine ⟨ws2, s4 _ _ hd3, sl_lt (by omega), fun b o e => ?_, _, upd_same, ?_⟩
        · rw [upd_ne (ne_of_none e hD)]
          exact s4 _ _ (s2 _ _ e)
        · rw [List.take_add_one, eq0, List.map_append (f := fun q => (i + 1, q)), ← List.append_assoc, List.map_append]
          exact TsAt.push (s4 _ _ hd3) (tw3.same s4) h_p
      · obtain ⟨s2, ws2, hd3, tw3⟩ := hP
        rw [List.length_map, List.take_length] at tw3
        refine ⟨s2, ws2, hd3, ?_⟩
        have e3 : wentTo n hist (i + 1) = wentTo n hist i ++ (oversOf n r.nums).map fun q => (i + 1, q) := by
          show wentTo n hist i ++ _ = _
          rw [er]
        rw [e3]
        exact tw3
    · obtain ⟨s2, ws2, hd3, tw3⟩ := hP
      rw [lp] at tw3
      exact q D G hD s2 ⟨ws2, hd3, tw3⟩
end
end E1

namespace E1
open PySem PySem.Spec PyProof.Rows L2

/-! ### methods that may raise -/
def CalMX (P : Program) (w : World) (K : PySem.W.Frag) (mg : Str → Option Value) (base : Heap) (k : Nat) (C : Addr) (m : Str) (ps : List Str) (sp : Sp) : Prop :=
  ∃ (f : Addr) (fd : FuncData), Meth K C m f ∧ Binds K fd ps [] ∧ FnOk P w K mg base (L2.CX P w) k f fd ps sp
def CalMXK (P : Program) (w : World) (K : PySem.W.Frag) (mg : Str → Option Value) (base : Heap) (k : Nat) (C : Addr) (m : Str) (ps ks : List Str) (gV : List V → List V → List V) (sp : Sp) : Prop :=
  ∃ (f : Addr) (fd : FuncData) (g : List Value → List Value → List Value), Meth K C m f ∧ KBn K fd ps 1 ks g gV ∧ FnOk P w K mg base (L2.CX P w) k f fd ps sp
def tMethX (C : Addr) (m : Str) (sp : Sp) (E : L2.St → XK) (ta : TE) (t : TA) : TE := fun σ H Q => ta σ H fun x H1 => ∃ a dx fs, x = .ref a ∧ H1 a = some (.ins C dx fs) ∧ fs.lookup m = none ∧ t σ H1 fun vs H2 => sp (x :: vs) H2 Q (E σ)
section
variable {X : Cx} {k j : Nat} {C : Addr} {m x : Str} {ps ks : List Str} {dvs : List V} {sp : Sp} {o e : Expr} {es : List Expr} {ta : TE} {t tk : TA} {apos p pos : Pos} {gV : List V → List V → List V} {kws : List Keyword}
theorem pe_calmx {pl : Sem Bool} (he : PE X o ta) (c : Cls X.K C) (h : CalMX X.prog X.w X.K X.mg X.base k C m ps sp) (hr : Room j X.A) (ha : PA X (e :: es) t) (hle : k ≤ j := by decide)
    (hst : starEach (e :: es) X.env = (false, eval e X.env) :: starEach es X.env := by rfl) (hpl : (backTo pos (starEach es X.env)).any (·.1) = false := by rfl)
    (ht : eval (.Call (.Attribute o m apos) (e :: es) [] pos) X.env = (do
      let ov ← eval o X.env
      standAt apos.atName
      let (f, first) ← holding [ov] (getMethod ov m pl)
      callWith pos f first (backTo pos (starEach (e :: es) X.env)) (backToKw pos (keywordEach [] X.env))) := by rfl) :
    PE X (.Call (.Attribute o m apos) (e :: es) [] pos) (tMeth C m sp [] E0 ta t) := by
  obtain ⟨f, fd, h1, h2, h3⟩ := h
  exact pe_meth he c h1 h3 (hr.mono hle) h2 .nil passL ha hst hpl ht
theorem pe_calmkx0 {pl : Sem Bool} (he : PE X o ta) (c : Cls X.K C) (h : CalMXK X.prog X.w X.K X.mg X.base k C m ps ks gV sp) (hr : Room j X.A) (hkw : PK X kws tk) (hle : k ≤ j := by decide)
    (hall : (backToKw pos (keywordEach kws X.env)).all (·.1.isSome) = true := by rfl) (hks : (backToKw pos (keywordEach kws X.env)).filterMap (·.1) = ks := by rfl)
    (hpl : ((backTo pos (starEach [] X.env)).any (·.1) || (backToKw pos (keywordEach kws X.env)).any (·.1.isNone)) = false := by rfl)
    (ht : eval (.Call (.Attribute o m apos) [] kws pos) X.env = (do
      let ov ← eval o X.env
      standAt apos.atName
      let (f, first) ← holding [ov] (getMethod ov m pl)
      callWith pos f first (backTo pos (starEach [] X.env)) (backToKw pos (keywordEach kws X.env))) := by rfl) :
    PE X (.Call (.Attribute o m apos) [] kws pos) (tMethK C m ks.length sp gV ta tk) := by
  obtain ⟨f, fd, g, hm, hb, F⟩ := h
  refine ⟨fun pins s σ H Q I h => ?_⟩
  refine PySem.W.methodCall_KW (pl := pl) (thn (he.run pins s σ H _ I h) fun u s1 ⟨x, H1, I1, rx, a, dx, fs, ex, ea, l, q⟩ => ?_) ht
  subst ex
  obtain rfl : u = Value.ref a := rx
  refine getmeth_ok I1 ea c hm l ?_
  refine PySem.W.callWith_KW0 (first := [.ref a]) (h₀ := X.base) I.ok.mod.kin hm.kp hall (thn (hkw.run pos pins s1 σ H1 _ I1 q) fun ws s2 ⟨zs, H2, I2, rz, l2, q2⟩ => ⟨I2.kIn, ?_⟩) hpl
  rw [hks]
  exact run_fnN (vs := [.ref a]) (us := [.ref a]) F (hr.mono hle) hb passL I2 (.cons rfl .nil) rz rfl l2 q2
/-- a method's call whose error a try around it waits for -/
theorem pe_calmxS {W : WX} {pl : Sem Bool} (he : PE X o ta) (c : Cls X.K C) (h : CalMX X.prog X.w X.K X.mg X.base k C m ps sp) (hr : Room j X.A) (tk : Takes X W) (ha : PA X (e :: es) t) (hle : k ≤ j := by decide)
    (hst : starEach (e :: es) X.env = (false, eval e X.env) :: starEach es X.env := by rfl) (hpl : (backTo pos (starEach es X.env)).any (·.1) = false := by rfl)
    (ht : eval (.Call (.Attribute o m apos) (e :: es) [] pos) X.env = (do
      let ov ← eval o X.env
      standAt apos.atName
      let (f, first) ← holding [ov] (getMethod ov m pl)
      callWith pos f first (backTo pos (starEach (e :: es) X.env)) (backToKw pos (keywordEach [] X.env))) := by rfl) :
    PE X (.Call (.Attribute o m apos) (e :: es) [] pos) (tMethX C m sp (WE W) ta t) := by
  obtain ⟨f, fd, hm, hb, F⟩ := h
  refine ⟨fun pins s σ H Q I h => ?_⟩
  refine PySem.W.methodCall_KW (pl := pl) (thn (he.run pins s σ H _ I h) fun u s1 ⟨x, H1, I1, rx, a, dx, fs, ex, ea, l, q⟩ => ?_) ht
  subst ex
  obtain rfl : u = Value.ref a := rx
  refine getmeth_ok I1 ea c hm l ?_
  refine PySem.W.callWith_K (first := [.ref a]) (h₀ := X.base) I.ok.mod.kin hm.kp (thn (ha.run pos pins s1 σ H1 _ I1 q) fun us s2 ⟨vs, H2, I2, r, q2⟩ => ⟨I2.kIn, ?_⟩) hst hpl
  exact run_fnS (us := .ref a :: us) (vs := .ref a :: vs) F (hr.mono hle) hb (passAt tk σ) I2 (.cons rfl r) q2
end
theorem len_txt : ∀ k : Nat, k < 201 → (toString (k : Int) : String).length ≤ 1000 := by decide +kernel
theorem VFmt.nat {k : Nat} (h : k < 201) : VFmt (.int (k : Int)) := by
  refine .inr ⟨_, rfl, ?_, len_txt k h⟩
  have h1 : ((k : Int)).natAbs = k := rfl
  rw [h1]
  refine Nat.lt_of_le_of_lt (Nat.log2_le_self k) (by omega)

/-- no word, whatever else is laid -/
def NoWord (K : PySem.W.Frag) (H : Hp) (w : Option Int) (x : V) : Prop := (∃ n, x = .int n ∧ inR w n = false) ∨ ∀ H', Same H H' → WholeIs K H' x false
theorem NoWord.mono {K : PySem.W.Frag} {H H1 : Hp} {w : Option Int} {x : V} (h : NoWord K H w x) (s : Same H H1) : NoWord K H1 w x := by
  rcases h with h | h
  · exact .inl h
  · exact .inr fun H' s' => h H' (s.trans s')
theorem notI {K : PySem.W.Frag} {H : Hp} {w : Option Int} {x : V} {t : String} (ty : ∀ H', Same H H' → TyX K H' x (.type t)) (k : kitB t "int" = some false) : NoWord K H w x := .inr fun H' s => .inr (.inr ⟨rfl, t, ty H' s, k⟩)
theorem notB {K : PySem.W.Frag} {H : Hp} {w : Option Int} {b : Bool} : NoWord K H w (.bl b) := .inr fun _ _ => .inr (.inl ⟨b, rfl, rfl⟩)
/-- the refusals that are caught here -/
structure Errs (K : PySem.W.Frag) (mg : Str → Option Value) (CE CU CT CB : Addr) : Prop where
  gE : mg "EchoError" = some (.ref CE)
  gU : mg "Unfit" = some (.ref CU)
  gT : mg "NoTurn" = some (.ref CT)
  gB : mg "BadState" = some (.ref CB)
  XU : ExcC K CU
  XT : ExcC K CT
  noU : PySem.W.findIn K (.ref CU) "at" = some none
  noT : PySem.W.findIn K (.ref CT) "many" = some none
  exU : PySem.W.exmOne K (.ref CU) (.ref CU) = some true
  exT : PySem.W.exmOne K (.ref CT) (.ref CE) = some true
  kT : PySem.W.kitOne K (.ref CT) (.ref CT) = some true
  kU : PySem.W.kitOne K (.ref CT) (.ref CU) = some false
  kB : PySem.W.kitOne K (.ref CT) (.ref CB) = some false
def spCkWordX (K : PySem.W.Frag) (C CN CU : Addr) : Sp := fun vs H Q E => ∃ (p : Addr) (n : NetP) (x : V), vs = [.ref p, x] ∧ NetAt C CN H p n ∧ ((∃ i, x = .int i ∧ inR (frm n.fs n.en).w i = true ∧ ∀ H', Same H H' → Q .non H') ∨ (NoWord K H (frm n.fs n.en).w x ∧ ∀ H' d, Same H H' → H' d = none → E (.ref CU) (some d) (upd H' d (.xd [("at", .int 0)]))))
def spTurnX (K : PySem.W.Frag) (C CN CM CU : Addr) : Sp := fun vs H Q E => ∃ (A : Addr → Prop) (B : Hp) (m pl : Addr) (n : NetP) (st0 : List Int) (hist : List Trn) (x : V), vs = [.ref m, x] ∧ MachAt C CN CM A B H m pl n st0 hist ∧ A pl ∧ (∀ y, A y → ∃ ys, H y = some (.lst ys)) ∧ (stOf st0 hist).length = n.holds.length ∧ hist.length ≤ 2000 ∧
  ((∃ i, x = .int i ∧ inR (frm n.fs n.en).w i = true ∧ NumOk n i (stOf st0 hist) ∧ ∀ H', SameBut pl H H' → MachAt C CN CM A B H' m pl n st0 (hist ++ [trn n i (stOf st0 hist)]) → Q (.int ((n.nums i (stOf st0 hist)).getD n.out 0)) H') ∨
   (NoWord K H (frm n.fs n.en).w x ∧ ∀ H' d, Same H H' → H' d = none → E (.ref CU) (some d) (upd H' d (.xd [("at", .int 0)]))))
/-- so many cannot be taken back -/
def NoMany (K : PySem.W.Frag) (H : Hp) (len : Nat) (x : V) : Prop := (∃ i : Int, x = .int i ∧ (i < 0 ∨ (len : Int) < i)) ∨ WholeIs K H x false
def spBackX (K : PySem.W.Frag) (C CN CM CT : Addr) : Sp := fun vs H Q E => ∃ (A : Addr → Prop) (B : Hp) (m pl : Addr) (n : NetP) (st0 : List Int) (hist : List Trn) (x : V), vs = [.ref m, x] ∧ MachAt C CN CM A B H m pl n st0 hist ∧ hist.length ≤ 200 ∧
  ((∃ k : Nat, x = .int k ∧ k ≤ hist.length ∧ ∀ pl' H', H pl' = none → SameBut m H H' → MachAt C CN CM (fun y => A y ∨ y = pl') B H' m pl' n st0 (hist.take (hist.length - k)) → Q .non H') ∨
   (NoMany K H hist.length x ∧ ∀ d, H d = none → E (.ref CT) (some d) (upd H d (.xd [("many", .int (hist.length : Nat))]))))
def spLBack (K : PySem.W.Frag) (C CN CM : Addr) : Sp := fun vs H Q _ => ∃ (A : Addr → Prop) (B : Hp) (m pl : Addr) (n : NetP) (st0 : List Int) (hist : List Trn) (x : V), vs = [.ref m, x] ∧ MachAt C CN CM A B H m pl n st0 hist ∧ hist.length ≤ 200 ∧
  ((∃ k : Nat, x = .int k ∧ k ≤ hist.length ∧ ∀ pl' H', H pl' = none → SameBut m H H' → MachAt C CN CM (fun y => A y ∨ y = pl') B H' m pl' n st0 (hist.take (hist.length - k)) → Q .non H') ∨
   (NoMany K H hist.length x ∧ ∀ H', Same H H' → Q (.int (hist.length : Nat)) H'))
def spLTurned (K : PySem.W.Frag) (C CN CM : Addr) : Sp := fun vs H Q _ => ∃ (A : Addr → Prop) (B : Hp) (m pl : Addr) (n : NetP) (st0 : List Int) (hist : List Trn) (x : V), vs = [.ref m, x] ∧ MachAt C CN CM A B H m pl n st0 hist ∧ A pl ∧ (∀ y, A y → ∃ ys, H y = some (.lst ys)) ∧ (stOf st0 hist).length = n.holds.length ∧ hist.length ≤ 2000 ∧
  ((∃ i, x = .int i ∧ inR (frm n.fs n.en).w i = true ∧ NumOk n i (stOf st0 hist) ∧ ∀ H', SameBut pl H H' → MachAt C CN CM A B H' m pl n st0 (hist ++ [trn n i (stOf st0 hist)]) → Q (.int ((n.nums i (stOf st0 hist)).getD n.out 0)) H') ∨
   (NoWord K H (frm n.fs n.en).w x ∧ ∀ H' t, Same H H' → H' t = some (.tup [.str "unfit", .int 0]) → Q (.ref t) H'))

theorem FnOk.or {P : Program} {w : World} {K : PySem.W.Frag} {mg : Str → Option Value} {base : Heap} {CX : CXT} {k : Nat} {f : Addr} {fd : FuncData} {ps : List Str} {sp1 sp2 : Sp} (a : FnOk P w K mg base CX k f fd ps sp1) (b : FnOk P w K mg base CX k f fd ps sp2) : FnOk P w K mg base CX k f fd ps (fun vs H Q E => sp1 vs H Q E ∨ sp2 vs H Q E) :=
  ⟨fun vs H Q E h => h.elim (a.len vs H Q E) (b.len vs H Q E), fun A outer s H args us vs Q E hr he hb hv h => h.elim (a.run A outer s H args us vs Q E hr he hb hv) (b.run A outer s H args us vs Q E hr he hb hv)⟩
/-- no state of a net, whatever else is laid -/
def NoState (K : PySem.W.Frag) (H : Hp) (n : NetP) (x : V) : Prop :=
  (∀ H', Same H H' → ∃ t : String, TyX K H' x (.type t) ∧ kitB t "tuple" = some false) ∨
  (∃ p xs, x = .ref p ∧ H p = some (.tup xs) ∧ xs.length ≠ n.holds.length) ∨
  (∃ p xs, x = .ref p ∧ H p = some (.tup xs) ∧ xs.length = n.holds.length ∧ (∀ (j : Nat) (h : Hold) (v : V), n.holds[j]? = some h → xs[j]? = some v → (∃ k, v = .int k) ∨ NoWord K H (frm n.fs h.k).w v) ∧ ∃ (j : Nat) (h : Hold) (v : V), n.holds[j]? = some h ∧ xs[j]? = some v ∧ NoWord K H (frm n.fs h.k).w v)
theorem NoState.mono {K : PySem.W.Frag} {H H1 : Hp} {n : NetP} {x : V} (h : NoState K H n x) (s : Same H H1) : NoState K H1 n x := by
  rcases h with h | ⟨p, xs, e, h1, h2⟩ | ⟨p, xs, e, h1, h2, h3, j, hj, v, h4, h5, h6⟩
  · exact .inl fun H' s' => h H' (s.trans s')
  · exact .inr (.inl ⟨p, xs, e, s _ _ h1, h2⟩)
  · exact .inr (.inr ⟨p, xs, e, s _ _ h1, h2, fun j h v a b => (h3 j h v a b).imp id fun z => z.mono s, j, hj, v, h4, h5, h6.mono s⟩)
def spIsStateN (K : PySem.W.Frag) (C CN : Addr) : Sp := fun vs H Q _ => ∃ (p : Addr) (n : NetP) (x : V), vs = [.ref p, x] ∧ NetAt C CN H p n ∧ NoState K H n x ∧ ∀ H', Same H H' → Q (.bl false) H'
def spIsState2 (K : PySem.W.Frag) (C CN : Addr) : Sp := fun vs H Q E => spIsState C CN vs H Q E ∨ spIsStateN K C CN vs H Q E
/-- an own error without a field -/
structure OwnX (K : PySem.W.Frag) (mg : Str → Option Value) (x : Str) (CC : Addr) : Prop where
  g : mg x = some (.ref CC)
  x : PySem.W.excIn K CC PySem.ErrX.bmA "ArithmeticError.__new__" = true
  k : PySem.W.keepIn K (.ref CC) = true
  b : PySem.W.subIn K (.ref CC) (.type "BaseException") = some true
  t : PySem.W.typeIn K (.ref CC) = some (.type "type")
def GoodSt (H : Hp) (n : NetP) (v : V) (st : List Int) : Prop := (v = .non ∧ st = starts n) ∨ ∃ sa, v = .ref sa ∧ H sa = some (.tup (st.map V.int)) ∧ StOk n st
/-- the first bad word of a row -/
def BadAt (K : PySem.W.Frag) (H : Hp) (w : Option Int) (xs : List V) (i : Nat) : Prop := (∃ v, xs[i]? = some v ∧ NoWord K H w v) ∧ ∀ j, j < i → ∃ k, xs[j]? = some (.int k) ∧ inR w k = true
theorem BadAt.mono {K : PySem.W.Frag} {H H1 : Hp} {w : Option Int} {xs : List V} {i : Nat} (h : BadAt K H w xs i) (s : Same H H1) : BadAt K H1 w xs i := by
  obtain ⟨⟨v, e, nw⟩, g⟩ := h
  exact ⟨⟨v, e, nw.mono s⟩, g⟩
def spCkStateX (K : PySem.W.Frag) (C CN CB : Addr) : Sp := fun vs H Q E => ∃ (p : Addr) (n : NetP) (x : V), vs = [.ref p, x] ∧ NetAt C CN H p n ∧ ((∃ sa st, x = .ref sa ∧ H sa = some (.tup (st.map V.int)) ∧ StOk n st ∧ ∀ H', Same H H' → Q .non H') ∨ (NoState K H n x ∧ ∀ H', Same H H' → E (.ref CB) none H'))
def spFirstX (K : PySem.W.Frag) (C CN CB : Addr) : Sp := fun vs H Q E => ∃ (p : Addr) (n : NetP) (v : V), vs = [.ref p, v] ∧ NetAt C CN H p n ∧ ((∃ st, GoodSt H n v st ∧ ∀ t H', Same H H' → H' t = some (.tup (st.map V.int)) → Q (.ref t) H') ∨ (v ≠ .non ∧ NoState K H n v ∧ ∀ H', Same H H' → E (.ref CB) none H'))
def spCkRunX (K : PySem.W.Frag) (C CN CU : Addr) : Sp := fun vs H _ E => ∃ (p wl : Addr) (n : NetP) (xs : List V) (i : Nat), vs = [.ref p, .ref wl] ∧ NetAt C CN H p n ∧ H wl = some (.lst xs) ∧ xs.length ≤ 200 ∧ BadAt K H (frm n.fs n.en).w xs i ∧ ∀ H' d, Same H H' → H' d = none → E (.ref CU) (some d) (upd H' d (.xd [("at", .int (i : Nat))]))
def spTurnedX (K : PySem.W.Frag) (C CN CU CB : Addr) : Sp := fun vs H _ E => ∃ (p : Addr) (n : NetP) (v x : V), vs = [.ref p, v, x] ∧ NetAt C CN H p n ∧ ((NoState K H n v ∧ ∀ H', Same H H' → E (.ref CB) none H') ∨ (∃ sa st, v = .ref sa ∧ H sa = some (.tup (st.map V.int)) ∧ StOk n st ∧ NoWord K H (frm n.fs n.en).w x ∧ ∀ H' d, Same H H' → H' d = none → E (.ref CU) (some d) (upd H' d (.xd [("at", .int 0)]))))
def spRunX (K : PySem.W.Frag) (C CN CU CB : Addr) : Sp := fun vs H _ E => ∃ (p wl : Addr) (n : NetP) (xs : List V) (v : V), vs = [.ref p, .ref wl, v] ∧ NetAt C CN H p n ∧ H wl = some (.lst xs) ∧ xs.length ≤ 200 ∧ ((v ≠ .non ∧ NoState K H n v ∧ ∀ H', Same H H' → E (.ref CB) none H') ∨ (∃ st i, GoodSt H n v st ∧ BadAt K H (frm n.fs n.en).w xs i ∧ ∀ H' d, Same H H' → H' d = none → E (.ref CU) (some d) (upd H' d (.xd [("at", .int (i : Nat))]))))
def spMInitX (K : PySem.W.Frag) (C CN CM CB : Addr) : Sp := fun vs H _ E => ∃ (m dx np : Addr) (n : NetP) (v : V), vs = [.ref m, .ref np, v] ∧ H m = some (.ins CM dx []) ∧ NetAt C CN H np n ∧ v ≠ .non ∧ NoState K H n v ∧ ∀ H', Same H H' → E (.ref CB) none H'
section
variable {P : Program} {w : World} {K : PySem.W.Frag} {mg : Str → Option Value} {base : Heap}
theorem ok_check_wordX {f : Addr} {fd : FuncData} {C CN CU fI : Addr} (T : FTxt K mg C) (EC : PySem.ErrX.ErrC K mg "Unfit" CU) (IO : PySem.ErrX.IniOk P w K mg CU fI "at") (F : Fun K "check_word" "check_word" s_check_word f fd) (c_enter_form : Cal P w K mg base 2 "enter_form" ["net"] (spEnterForm C CN)) (m_has : CalM P w K mg base 2 C "has" ["self", "thing"] (spHas K C)) : FnOk P w K mg base (L2.CX P w) 3 f fd ["net", "word"] (spCkWordX K C CN CU) := by
  refine F.okX sc_check_word (fun vs H Q E h => ?_) (fun cdv A outer s H vs Q E hr h => ?_)
  · obtain ⟨p, n, x, rfl, _⟩ := h
    rfl
  · obtain ⟨p, n, x, rfl, hn, h⟩ := h
    refine ⟨_, (pss_one (ps_if (pt_not (pt_val (pe_calm (pe_cal c_enter_form hr (pa_cons (pv 0) pa_nil)) T.cl m_has hr (pa_cons (pv 1) pa_nil)))) (pss_one (ps_raiseErr rfl EC IO hr (takes_of rfl rfl rfl rfl) (by exact (pa_cons pe_int pa_nil)))) pss_nil)), ?_⟩
    refine ⟨_, rfl, p, n, rfl, hn, fun fp H1 s1 hf => ?_⟩
    obtain ⟨dx, ho⟩ := hf.ob
    rcases h with ⟨i, rfl, hi, q⟩ | ⟨hx, q⟩
    · refine ⟨fp, dx, _, rfl, ho, fl_no (by decide +kernel), _, rfl, fp, _, _, _, _, .int i, _, rfl, hf, .inl ⟨i, rfl, rfl⟩, _, rfl, ?_⟩
      rw [hi]
      exact iteF (q _ s1)
    · refine ⟨fp, dx, _, rfl, ho, fl_no (by decide +kernel), _, rfl, fp, _, _, _, _, x, false, rfl, hf, ?_, _, rfl, iteT ?_⟩
      · rcases hx with ⟨n, rfl, hn⟩ | hx
        · exact .inl ⟨n, rfl, hn.symm⟩
        · exact .inr ⟨hx _ s1, rfl⟩
      · exact ⟨_, rfl, .inr ⟨0, rfl, by decide, by decide⟩, fun d hd => q _ d s1 hd⟩
theorem ok_Machine_turnX {f : Addr} {fd : FuncData} {C CN CM CU : Addr} (TN : NTxt K mg CN) (TM : MTxt K mg CM) (F : Fun K "turn" "Machine.turn" s_Machine_turn f fd) (n_out : CalM P w K mg base 1 CN "out" ["self"] (spOutM C CN)) (x_state : CalM P w K mg base 1 CM "state" ["self"] (spStateM C CN CM)) (c_check_word : CalX P w K mg base 3 "check_word" ["net", "word"] [] (spCkWordX K C CN CU)) (c_turn_of : Cal P w K mg base 8 "turn_of" ["net", "state", "word"] (spTurnOf C CN)) (c_overs_machines : Cal P w K mg base 7 "overs_machines" ["net", "numbers"] (spOvers C CN)) : FnOk P w K mg base (L2.CX P w) 9 f fd ["self", "word"] (spTurnX K C CN CM CU) := by
  refine F.okX sc_Machine_turn (fun vs H Q E h => ?_) (fun cdv A outer s H vs Q E hr h => ?_)
  · obtain ⟨A0, B, m, pl, n, st0, hist, x, rfl, _⟩ := h
    rfl
  · obtain ⟨A0, B, m, pl, n, st0, hist, x, rfl, ⟨dx, fs, np, pvs, b⟩, apl, lists, hls, h2000, h⟩ := h
    refine ⟨_, (pss_cons (ps_expr (pe_calxS c_check_word hr (takes_of rfl rfl rfl rfl) (pa_cons (pe_fld (pv 0) rfl) (pa_cons (pv 1) pa_nil))))
      (pss_cons (ps_asg (pe_cal c_turn_of hr (pa_cons (pe_fld (pv 0) rfl) (pa_cons (pe_calm0 (pv 0) TM.cl x_state hr) (pa_cons (pv 1) pa_nil)))) (pg_tup (by rfl) (pgs_cons (pg_name (i := 2) sc_Machine_turn.nd rfl (.inl rfl)) (pgs_cons (pg_name (i := 3) sc_Machine_turn.nd rfl (.inl rfl)) pgs_nil))))
      (pss_cons (ps_expr (pe_bm PySem.F.plainAttrs_list PySem.F.slot_list_append PySem.F.type_list_append mt_append (pe_fld (pv 0) rfl) (pa_cons (pe_tup (pa_cons (pv 2) (pa_cons (pe_cal c_overs_machines hr (pa_cons (pe_fld (pv 0) rfl) (pa_cons (pv 2) pa_nil))) (pa_cons (pv 3) pa_nil)))) pa_nil)))
      (pss_one (ps_ret (pe_ix ix_list (pv 2) (pe_calm0 (pe_fld (pv 0) rfl) TN.cl n_out hr) (fun _ _ => rfl))))))), ?_⟩
    have ok := b.net.1
    rcases h with h | ⟨hx, q⟩
    rotate_left
    · exact ⟨_, rfl, m, CM, dx, _, _, rfl, b.ob, TM.cl, TM.n_net, ml_n, _, rfl, np, n, x, rfl, b.net.same b.bs, .inr ⟨hx, fun H' d s hd => q H' d s hd⟩⟩
    obtain ⟨x, rfl, xin, ko, q⟩ := h
    refine ⟨_, rfl, m, CM, dx, _, _, rfl, b.ob, TM.cl, TM.n_net, ml_n, _, rfl, np, n, .int x, rfl, b.net.same b.bs, .inl ⟨x, rfl, xin, fun H1 s1 => ?_⟩⟩
    have b1 := b.same s1
    refine ⟨_, rfl, m, CM, dx, _, _, rfl, b1.ob, TM.cl, TM.n_net, ml_n, _, rfl, m, dx, _, rfl, b1.ob, ml_no (by decide +kernel), _, _, m, pl, n, st0, hist, rfl, ⟨dx, fs, np, pvs, b1⟩, fun st hst => ?_⟩
    refine ⟨_, rfl, np, st, n, x, _, rfl, b1.net.same b1.bs, hst, hls, ko, fun tt l s H2 s2 ht0 hl0 hs0 h_t h_l h_s => ⟨tt, _, rfl, SqT.of h_t, rfl, _, _, rfl, _, _, rfl, rfl, ?_⟩⟩
    have b2 := b1.same s2
    have no : NumsOk n (n.nums x (stOf st0 hist)) := ⟨nums_len _ _ _, fun k hk => ko k hk⟩
    refine ⟨_, rfl, m, CM, dx, _, _, rfl, b2.ob, TM.cl, TM.n_past, ml_p, .inl ⟨rfl, _, SqL.of b2.pa⟩, _, rfl, _, rfl, m, CM, dx, _, _, rfl, b2.ob, TM.cl, TM.n_net, ml_n, _, rfl, np, l, n, _, rfl, b2.net.same b2.bs, h_l, no, fun o H3 ho0 s3 h_o => ?_⟩
    have b3 := b2.same s3
    refine ⟨_, rfl, (by show 3 ≤ sizeLine; decide), fun t3 ht3 => ?_⟩
    generalize hG : upd _ t3 _ = H4
    obtain ⟨s4, h_t3⟩ := upd_gen hG ht3
    have b4 := b3.same s4
    have lp := b4.ps.len
    have nl : ¬ A0 l := fun z => by
      obtain ⟨ys, e⟩ := lists l z
      have := s1 _ _ e
      rw [hl0] at this
      cases this
    have no' : ¬ A0 o := fun z => by
      obtain ⟨ys, e⟩ := lists o z
      have := (s1.trans s2) _ _ e
      rw [ho0] at this
      cases this
    refine ⟨pl, _, _, rfl, rfl, b4.pa, sl_lt (by omega), ?_⟩
    generalize hG5 : upd _ pl _ = H5
    obtain ⟨s5, h_pl⟩ := upd_but hG5
    have hl5 := s5 l _ (fun z => nl (by rw [z]; exact apl)) (s4 _ _ (s3 _ _ h_l))
    have P : PsAt n A0 H5 (pvs ++ [.ref t3]) (hist ++ [trn n x (stOf st0 hist)]) := .snoc (b4.ps.keep s5 apl b4.pa) (s5 _ _ (ne_of h_t3 b4.pa (fun z => nomatch z)) h_t3) hl5 (s5 o _ (fun z => no' (by rw [z]; exact apl)) (s4 _ _ h_o)) (s5 _ _ (ne_of (s4 _ _ (s3 _ _ h_s)) b4.pa (fun z => nomatch z)) (s4 _ _ (s3 _ _ h_s))) nl no'
    have b5 : MB C CN CM A0 B H5 m pl n st0 (hist ++ [trn n x (stOf st0 hist)]) dx fs np (pvs ++ [.ref t3]) := ⟨s5 _ _ (ne_of b4.ob b4.pa (fun z => nomatch z)) b4.ob, b.bm, b.bp, same_but b4.bs s5 b.bp, b.net, s5 _ _ (ne_of b4.fs b4.pa (fun z => nomatch z)) b4.fs, h_pl, P⟩
    have N5 := b5.net.same b5.bs
    obtain ⟨_, dxn, fl, rl, hl, ppl, fv, rv, hv, nb⟩ := id N5
    refine ⟨_, rfl, _, rfl, m, CM, dx, _, _, rfl, b5.ob, TM.cl, TM.n_net, ml_n, np, dxn, _, rfl, nb.ob, nl_no (by decide +kernel), np, n, rfl, N5, l, _, _, _, rfl, rfl, SqL.of hl5, ints_at (by rw [nums_len]; exact ok.out), q H5 (((SameBut.of (((s1.trans s2).trans s3).trans s4))).trans s5) ⟨dx, fs, np, _, b5⟩⟩
theorem ok_is_stateN {f : Addr} {fd : FuncData} {C CN : Addr} (T : FTxt K mg C) (TN : NTxt K mg CN) (F : Fun K "is_state" "is_state" s_is_state f fd) (z : Zs mg) (n_forms : CalM P w K mg base 1 CN "forms" ["self"] (spFormsM C CN)) (n_holds : CalM P w K mg base 1 CN "holds" ["self"] (spHoldsM C CN)) (m_has : CalM P w K mg base 2 C "has" ["self", "thing"] (spHas K C)) : FnOk P w K mg base CX0 3 f fd ["net", "thing"] (spIsStateN K C CN) := by
  refine F.ok sc_is_state (fun vs H Q E h => ?_) (fun cdv A outer s H vs Q E hr h => ?_)
  · obtain ⟨p, n, x, rfl, _⟩ := h
    rfl
  · obtain ⟨p, n, x, rfl, hn, hx, q⟩ := h
    refine ⟨_, (pss_cons (ps_set (i := 2) sc_is_state.nd rfl (.inl rfl) (pe_calm0 (pv 0) TN.cl n_holds hr))
      (pss_cons (ps_if (PW.pt (pw_or (pt_not (pt_val (pe_callB call_isi (by rfl) z.isinstance (by decide +kernel) (pa_cons (pv 1) (pa_cons (pe_bltn (v := .ty "tuple") (by rfl) z.tuple (by decide +kernel) rfl) pa_nil))))) (pw_or1 (pt_cmpR op_ne (pe_callB call_len_seq (by rfl) z.len PySem.boot_len (pa_cons (pv 1) pa_nil)) (pe_callB call_len_seq (by rfl) z.len PySem.boot_len (pa_cons (pv 2) pa_nil)) (nomark _))))) (pss_one (ps_ret pe_bl)) pss_nil)
      (pss_cons (ps_set (i := 3) sc_is_state.nd rfl (.inr rfl) (pe_calm0 (pv 0) TN.cl n_forms hr))
      (pss_one (ps_ret (pe_callB (cr_all rfl) (by rfl) z.all (by decide +kernel) (pa_cons (pe_lc (own := [("hold", 4), ("word", 5)]) (g := gTup K 2 (gCons (gName 4) (gCons (gName 5) gNil))) (tt := tYes) (te := tMeth C "has" (spHas K C) [] E0 (tOp (rIxL K) (tVar 3) (tOp (rIxT K) (tVar 4) (tC (.int 0)))) (tCons (tVar 5) tNil)) (by rfl) sc_is_state.nd (pi_zipM (by rfl) z.zip (pa_cons (pv 2) (pa_cons (pv 1) pa_nil))) (blkOk_by (own := [("hold", 4), ("word", 5)]) (N := ["net", "thing", "holds", "forms", "hold", "word"]) (sc := defScope s_is_state) (by decide +kernel)) (fun _ _ _ _ _ => by exact (pg_tup (by rfl) (pgs_cons (pg_name (i := 4) sc_is_state.nd rfl (.inl rfl)) (pgs_cons (pg_name (i := 5) sc_is_state.nd rfl (.inl rfl)) pgs_nil)))) (fun _ _ _ _ _ => by exact pts_nil) (fun _ _ _ _ _ => by exact (pe_calm (pe_ix ix_list (pv 3) (pe_ix ix_tup (pv 4) pe_int (fun _ _ => rfl)) (fun _ _ => rfl)) T.cl m_has hr (pa_cons (pv 5) pa_nil)))) pa_nil))))))), ?_⟩
    obtain ⟨ok, dx, fl, rl, hl, pl, fv, rv, hv, b⟩ := id hn
    have h6 := ok.h2
    refine ⟨_, rfl, p, dx, _, rfl, b.ob, nl_no (by decide +kernel), p, n, rfl, hn, fun hl2 hv2 H1 hf1 s1 h_hl2 hhh => ?_⟩
    have lh := hhh.len
    rw [List.length_map] at lh
    rcases hx with hx | ⟨pa, xs, rfl, hxs, hne⟩ | ⟨pa, xs, rfl, hxs, hlen, hall, j, hj0, v, ej, evj, hbad⟩
    · obtain ⟨t, ty, kt⟩ := hx _ s1
      exact ⟨_, rfl, _, .ty "tuple", _, _, false, rfl, .ty _, ty, kit_ty kt, _, rfl, iteT (q _ s1)⟩
    · exact ⟨_, rfl, _, .ty "tuple", _, _, true, rfl, .ty _, .base (.tup (s1 _ _ hxs)), kit_ty (by decide +kernel), _, rfl, iteF ⟨_, rfl, pa, _, rfl, .inr (SqT.of (s1 _ _ hxs)), _, rfl, hl2, _, rfl, .inl (SqL.of h_hl2), rfl, _, rfl, iteC (d := true) (by rw [decide_eq_false (fun z => hne (by have := V.int.inj z; omega))]; rfl) (iteT (q _ s1))⟩⟩
    refine ⟨_, rfl, _, .ty "tuple", _, _, true, rfl, .ty _, .base (.tup (s1 _ _ hxs)), kit_ty (by decide +kernel), _, rfl, iteF ⟨_, rfl, pa, _, rfl, .inr (SqT.of (s1 _ _ hxs)), _, rfl, hl2, _, rfl, .inl (SqL.of h_hl2), rfl, _, rfl, iteC (d := false) (by rw [hlen, lh, decide_eq_true rfl]; rfl) (iteF ?_)⟩⟩
    refine ⟨_, rfl, p, dx, _, rfl, s1 _ _ b.ob, nl_no (by decide +kernel), p, n, rfl, hn.same s1, fun fl2 fv2 H2 hf2 s2 h_fl2 hff => ?_⟩
    have S2 := s1.trans s2
    have hsa2 := S2 _ _ hxs
    have hhl2 := s2 _ _ h_hl2
    refine ⟨_, rfl, _, rfl, hl2, pa, hv2, xs, rfl, SqL.of hhl2, SqT.of hsa2, fun D hD => ?_⟩
    refine lc_it (walk_zipM (K := K) (a := hl2) (b := pa) (xs := hv2) (ys := xs) (by omega)) (fun i G => Same H2 G ∧ ∃ bs : List Bool, G D = some (.lst (bs.map V.bl)) ∧ bs.length = i ∧ (j < i → bs[j]? = some false)) ⟨same_new hD, [], upd_same, rfl, fun z => absurd z (Nat.not_lt_zero _)⟩ (fun i G _ hP => ⟨SqL.of (hP.1 _ _ hhl2), SqT.of (hP.1 _ _ hsa2)⟩) (fun i x G G' hi hP hY => ?_) (fun G hP => ?_)
    · obtain ⟨s3, bs, hd, lb, hj⟩ := hP
      obtain ⟨Tp, u, v', rfl, nT, rfl, e1, e2⟩ := hY
      obtain ⟨hp, ys, rfl, ex, hhp⟩ := hhh.get e1
      rw [List.getElem?_map] at ex
      obtain ⟨hh, eh, rfl⟩ := Option.map_eq_some_iff.mp ex
      have kl := (ok.ho hh (List.mem_of_getElem? eh)).1
      obtain ⟨fp, efp, hfp⟩ := hff.frm kl
      have sN := same_new (o := .tup [.ref hp, v']) nT
      have S3 := s3.trans sN
      have ffp := FormAt.same hfp S3
      obtain ⟨dxf, hof⟩ := ffp.ob
      have SS := S2.trans S3
      obtain ⟨b0, hb0, jb⟩ : ∃ b0, ((∃ k, v' = .int k ∧ b0 = inR (frm n.fs hh.k).w k) ∨ (WholeIs K (upd G Tp (.tup [.ref hp, v'])) v' false ∧ b0 = false)) ∧ (i = j → b0 = false) := by
        have nw : NoWord K H (frm n.fs hh.k).w v' → ∃ b0, ((∃ k, v' = .int k ∧ b0 = inR (frm n.fs hh.k).w k) ∨ (WholeIs K (upd G Tp (.tup [.ref hp, v'])) v' false ∧ b0 = false)) ∧ (i = j → b0 = false) := fun h => by
          rcases h with ⟨k, rfl, hk⟩ | h
          · exact ⟨false, .inl ⟨k, rfl, hk.symm⟩, fun _ => rfl⟩
          · exact ⟨false, .inr ⟨h _ SS, rfl⟩, fun _ => rfl⟩
        replace e2 : xs[i]? = some v' := e2
        by_cases c : i = j
        · subst c
          rw [ej] at eh
          cases eh
          rw [evj] at e2
          cases e2
          exact nw hbad
        · rcases hall i hh v' eh e2 with ⟨k, rfl⟩ | h
          · exact ⟨_, .inl ⟨k, rfl, rfl⟩, fun z => absurd z c⟩
          · exact nw h
      refine ⟨Tp, _, rfl, SqT.of upd_same, rfl, _, _, rfl, _, _, rfl, rfl, rfl, ?_⟩
      refine ⟨_, rfl, _, rfl, hp, _, 0, .int hh.k, rfl, rfl, SqT.of (S3 _ _ (s2 _ _ hhp)), a0, fl2, _, _, .ref fp, rfl, rfl, SqL.of (S3 _ _ h_fl2), atI_nat efp, fp, dxf, _, rfl, hof, fl_no (by decide +kernel), _, rfl, fp, _, _, _, _, v', b0, rfl, ffp, hb0, _, sN _ _ hd, ?_, fun c o e => ?_, bs ++ [b0], ?_, ?_, fun jl => ?_⟩
      · rw [List.length_map, lb]
        exact sl_lt (by omega)
      · rw [upd_ne (ne_of_none e hD)]
        exact S3 _ _ e
      · rw [upd_same, List.map_append]
        rfl
      · rw [List.length_append, lb]
        rfl
      · by_cases c : i = j
        · subst c
          rw [List.getElem?_append_right (by omega), lb, Nat.sub_self, jb rfl]
          rfl
        · rw [List.getElem?_append_left (by omega)]
          exact hj (by omega)
    · obtain ⟨s3, bs, hd, lb, hj⟩ := hP
      refine ⟨D, _, rfl, SqL.of hd, ?_⟩
      have jl : j < hv2.length := by
        have := (List.getElem?_eq_some_iff.mp ej).1
        omega
      rw [show bs.all id = false from by
        rw [List.all_eq_false]
        exact ⟨false, List.mem_of_getElem? (hj jl), by decide⟩]
      exact q _ (S2.trans s3)
theorem ok_check_stateX {f : Addr} {fd : FuncData} {C CN : Addr} {CB : Addr} (NB : OwnX K mg "BadState" CB) (F : Fun K "check_state" "check_state" s_check_state f fd) (c_is_state : Cal P w K mg base 3 "is_state" ["net", "thing"] (spIsState2 K C CN)) : FnOk P w K mg base (L2.CX P w) 4 f fd ["net", "state"] (spCkStateX K C CN CB) := by
  refine F.okX sc_check_state (fun vs H Q E h => ?_) (fun cdv A outer s H vs Q E hr h => ?_)
  · obtain ⟨p, n, x, rfl, _⟩ := h
    rfl
  · obtain ⟨p, n, x, rfl, hn, h⟩ := h
    refine ⟨_, (pss_one (ps_if (pt_not (pt_val (pe_cal c_is_state hr (pa_cons (pv 0) (pa_cons (pv 1) pa_nil))))) (pss_one (ps_raise rfl (takes_of rfl rfl rfl rfl) (pmk_own PySem.F.excBase_ArithmeticError NB.x NB.g NB.k (raises_own NB.b NB.t) rfl))) pss_nil)), ?_⟩
    rcases h with ⟨sa, st, rfl, hsa, so, q⟩ | ⟨hx, q⟩
    · exact ⟨_, rfl, _, rfl, .inl ⟨p, sa, n, st, rfl, hn, hsa, so, fun H' s => ⟨_, rfl, iteF (q _ s)⟩⟩⟩
    · exact ⟨_, rfl, _, rfl, .inr ⟨p, n, x, rfl, hn, hx, fun H' s => ⟨_, rfl, iteT (q _ s)⟩⟩⟩
theorem ok_first_stateX {f : Addr} {fd : FuncData} {C CN CB : Addr} (TN : NTxt K mg CN) (F : Fun K "first_state" "first_state" s_first_state f fd) (n_start : CalM P w K mg base 1 CN "start" ["self"] (spStartM C CN)) (c_check_state : CalX P w K mg base 4 "check_state" ["net", "state"] [] (spCkStateX K C CN CB)) : FnOk P w K mg base (L2.CX P w) 5 f fd ["net", "state"] (spFirstX K C CN CB) := by
  refine F.okX sc_first_state (fun vs H Q E h => ?_) (fun cdv A outer s H vs Q E hr h => ?_)
  · obtain ⟨p, n, v, rfl, _⟩ := h
    rfl
  · obtain ⟨p, n, v, rfl, hn, h⟩ := h
    refine ⟨_, (pss_cons (ps_if (pt_cmpR op_isN (pv 1) pe_non (nomark _)) (pss_one (ps_ret (pe_calm0 (pv 0) TN.cl n_start hr))) pss_nil)
      (pss_cons (ps_expr (pe_calxS c_check_state hr (takes_of rfl rfl rfl rfl) (pa_cons (pv 0) (pa_cons (pv 1) pa_nil))))
      (pss_one (ps_ret (pv 1))))), ?_⟩
    obtain ⟨ok, dx, fl, rl, hl, pl, fv, rv, hv, b⟩ := id hn
    rcases h with ⟨st, ⟨rfl, rfl⟩ | ⟨sa, rfl, hsa, so⟩, q⟩ | ⟨nv, hx, q⟩
    · exact ⟨_, rfl, rfl, _, rfl, iteC (d := true) (decide_eq_true rfl) (iteT ⟨_, rfl, p, dx, _, rfl, b.ob, nl_no (by decide +kernel), p, n, rfl, hn, fun t H' ht s h_t => q t H' s h_t⟩)⟩
    · exact ⟨_, rfl, rfl, _, rfl, iteC (d := false) (decide_eq_false (fun z => nomatch z)) (iteF ⟨_, rfl, _, rfl, p, n, _, rfl, hn, .inl ⟨sa, st, rfl, hsa, so, fun H' s => ⟨_, rfl, q sa H' s (s _ _ hsa)⟩⟩⟩)⟩
    · exact ⟨_, rfl, rfl, _, rfl, iteC (d := false) (decide_eq_false nv) (iteF ⟨_, rfl, _, rfl, p, n, _, rfl, hn, .inr ⟨hx, q⟩⟩)⟩
theorem ok_check_runX {f : Addr} {fd : FuncData} {C CN CU fI : Addr} (T : FTxt K mg C) (EC : PySem.ErrX.ErrC K mg "Unfit" CU) (IO : PySem.ErrX.IniOk P w K mg CU fI "at") (F : Fun K "check_run" "check_run" s_check_run f fd) (z : Zs mg) (c_enter_form : Cal P w K mg base 2 "enter_form" ["net"] (spEnterForm C CN)) (m_has : CalM P w K mg base 2 C "has" ["self", "thing"] (spHas K C)) : FnOk P w K mg base (L2.CX P w) 3 f fd ["net", "words"] (spCkRunX K C CN CU) := by
  refine F.okX sc_check_run (fun vs H Q E h => ?_) (fun cdv A outer s H vs Q E hr h => ?_)
  · obtain ⟨p, wl, n, xs, i0, rfl, _⟩ := h
    rfl
  · obtain ⟨p, wl, n, xs, i0, rfl, hn, hw, l1000, hx, q⟩ := h
    refine ⟨_, (pss_cons (ps_set (i := 2) sc_check_run.nd rfl (.inl rfl) (pe_cal c_enter_form hr (pa_cons (pv 0) pa_nil)))
      (pss_one (ps_for (passes_of rfl) rfl (pi_enum (by rfl) z.enumerate (pa_cons (pv 1) pa_nil)) (pg_tup (by rfl) (pgs_cons (pg_name (i := 3) sc_check_run.nd rfl (.inl rfl)) (pgs_cons (pg_name (i := 4) sc_check_run.nd rfl (.inl rfl)) pgs_nil))) (pss_one (ps_if (pt_not (pt_val (pe_calm (pv 2) T.cl m_has hr (pa_cons (pv 4) pa_nil)))) (pss_one (ps_raiseErr rfl EC IO hr (takes_of rfl rfl rfl rfl) (by exact (pa_cons (pv 3) pa_nil)))) pss_nil))))), ?_⟩
    obtain ⟨⟨v0, ev0, nw⟩, hg⟩ := hx
    have i0l := (List.getElem?_eq_some_iff.mp ev0).1
    refine ⟨_, rfl, p, n, rfl, hn, fun fp H1 s1 hf => ?_⟩
    refine ⟨_, rfl, wl, _, rfl, SqL.of (s1 _ _ hw), ?_⟩
    refine for_it (walk_enum (K := K) (a := wl) (xs := xs)) (fun i σ G => i ≤ i0 ∧ ∃ y3 y4 : Option V, σ = [some (.ref p), some (.ref wl), some (.ref fp), y3, y4] ∧ Same H1 G) ⟨Nat.zero_le _, none, none, rfl, Same.refl _⟩ (fun i σ G _ hP => ?_) (fun i v σ G G' hi hP hY => ?_) (fun σ G hP => ?_)
    · obtain ⟨_, y3, y4, rfl, s2⟩ := hP
      exact SqL.of (s2 _ _ (s1 _ _ hw))
    · obtain ⟨il, y3, y4, rfl, s2⟩ := hP
      obtain ⟨Tp, u, v', rfl, nT, rfl, e1, e2⟩ := hY
      cases e1
      have s3 := s2.trans (same_new (o := .tup [.int (i : Nat), v']) nT)
      have hf2 := FormAt.same hf s3
      obtain ⟨dx, ho⟩ := hf2.ob
      refine ⟨Tp, _, rfl, SqT.of upd_same, rfl, _, _, rfl, _, _, rfl, rfl, ?_⟩
      replace e2 : xs[i]? = some v' := e2
      by_cases c : i = i0
      · subst c
        rw [ev0] at e2
        cases e2
        refine ⟨_, rfl, fp, dx, _, rfl, ho, fl_no (by decide +kernel), _, rfl, fp, _, _, _, _, v0, false, rfl, hf2, ?_, _, rfl, iteT ?_⟩
        · rcases nw with ⟨m, rfl, hm⟩ | nw
          · exact .inl ⟨m, rfl, hm.symm⟩
          · exact .inr ⟨nw _ (s1.trans s3), rfl⟩
        · exact ⟨_, rfl, _, rfl, VFmt.nat (by omega), fun d hd => q _ d (s1.trans s3) hd⟩
      · obtain ⟨k, ek, hk⟩ := hg i (by omega)
        rw [ek] at e2
        cases e2
        refine ⟨_, rfl, fp, dx, _, rfl, ho, fl_no (by decide +kernel), _, rfl, fp, _, _, _, _, .int k, _, rfl, hf2, .inl ⟨k, rfl, rfl⟩, _, rfl, ?_⟩
        rw [hk]
        exact iteF ⟨by omega, _, _, rfl, s3⟩
    · obtain ⟨il, _⟩ := hP
      exact absurd il (by omega)
theorem ok_turnedX {f : Addr} {fd : FuncData} {C CN CU CB : Addr} (F : Fun K "turned" "turned" s_turned f fd) (c_check_state : CalX P w K mg base 4 "check_state" ["net", "state"] [] (spCkStateX K C CN CB)) (c_check_word : CalX P w K mg base 3 "check_word" ["net", "word"] [] (spCkWordX K C CN CU)) (c_turn_of : Cal P w K mg base 8 "turn_of" ["net", "state", "word"] (spTurnOf C CN)) : FnOk P w K mg base (L2.CX P w) 9 f fd ["net", "state", "word"] (spTurnedX K C CN CU CB) := by
  refine F.okX sc_turned (fun vs H Q E h => ?_) (fun cdv A outer s H vs Q E hr h => ?_)
  · obtain ⟨p, n, v, x, rfl, _⟩ := h
    rfl
  · obtain ⟨p, n, v, x, rfl, hn, h⟩ := h
    refine ⟨_, (pss_cons (ps_expr (pe_calxS c_check_state hr (takes_of rfl rfl rfl rfl) (pa_cons (pv 0) (pa_cons (pv 1) pa_nil))))
      (pss_cons (ps_expr (pe_calxS c_check_word hr (takes_of rfl rfl rfl rfl) (pa_cons (pv 0) (pa_cons (pv 2) pa_nil))))
      (pss_one (ps_ret (pe_cal c_turn_of hr (pa_cons (pv 0) (pa_cons (pv 1) (pa_cons (pv 2) pa_nil)))))))), ?_⟩
    rcases h with ⟨hx, q⟩ | ⟨sa, st, rfl, hsa, so, hx, q⟩
    · exact ⟨_, rfl, _, rfl, p, n, v, rfl, hn, .inr ⟨hx, q⟩⟩
    · exact ⟨_, rfl, _, rfl, p, n, _, rfl, hn, .inl ⟨sa, st, rfl, hsa, so, fun H1 s1 => ⟨_, rfl, _, rfl, p, n, x, rfl, hn.same s1, .inr ⟨hx.mono s1, fun H' d s hd => q H' d (s1.trans s) hd⟩⟩⟩⟩
theorem ok_runX {f : Addr} {fd : FuncData} {C CN CU CB : Addr} (TN : NTxt K mg CN) {dvs : List V} (F : FunD K "run" "run" (defArgs s_run) (defBody s_run) (defScope s_run) dvs [] f fd) (z : Zs mg) (n_out : CalM P w K mg base 1 CN "out" ["self"] (spOutM C CN)) (c_first_state : CalX P w K mg base 5 "first_state" ["net", "state"] [] (spFirstX K C CN CB)) (c_check_run : CalX P w K mg base 3 "check_run" ["net", "words"] [] (spCkRunX K C CN CU)) (c_turn_of : Cal P w K mg base 8 "turn_of" ["net", "state", "word"] (spTurnOf C CN)) : FnOk P w K mg base (L2.CX P w) 9 f fd ["net", "words", "state"] (spRunX K C CN CU CB) := by
  refine F.ok sc_run (fun vs H Q E h => ?_) (fun cdv A outer s H vs Q E hr h => ?_)
  · obtain ⟨p, wl, n, xs, v, rfl, _⟩ := h
    rfl
  · obtain ⟨p, wl, n, xs, v, rfl, hn, hw, l1000, h⟩ := h
    refine ⟨_, (pss_cons (ps_set (i := 2) sc_run.nd rfl (.inl rfl) (pe_calxS c_first_state hr (takes_of rfl rfl rfl rfl) (pa_cons (pv 0) (pa_cons (pv 2) pa_nil))))
      (pss_cons (ps_expr (pe_calxS c_check_run hr (takes_of rfl rfl rfl rfl) (pa_cons (pv 0) (pa_cons (pv 1) pa_nil))))
      (pss_cons (ps_set (i := 3) sc_run.nd rfl (.inl rfl) (pe_lst pa_nil))
      (pss_cons (ps_for (passes_of rfl) rfl (pi_list (pv 1)) (pg_name (i := 4) sc_run.nd rfl (.inl rfl)) (pss_cons (ps_asg (pe_cal c_turn_of hr (pa_cons (pv 0) (pa_cons (pv 2) (pa_cons (pv 4) pa_nil)))) (pg_tup (by rfl) (pgs_cons (pg_name (i := 5) sc_run.nd rfl (.inl rfl)) (pgs_cons (pg_name (i := 2) sc_run.nd rfl (.inl rfl)) pgs_nil))))
      (pss_one (ps_expr (pe_bm PySem.F.plainAttrs_list PySem.F.slot_list_append PySem.F.type_list_append mt_append (pv 3) (pa_cons (pe_ix ix_list (pv 5) (pe_calm0 (pv 0) TN.cl n_out hr) (fun _ _ => rfl)) pa_nil))))))
      (pss_one (ps_ret (pv 3))))))), ?_⟩
    rcases h with ⟨nv, hx, q⟩ | ⟨st, i, hv, hx, q⟩
    · exact ⟨_, rfl, _, rfl, p, n, v, rfl, hn, .inr ⟨nv, hx, q⟩⟩
    · exact ⟨_, rfl, _, rfl, p, n, v, rfl, hn, .inl ⟨st, hv, fun t H1 s1 h_t => ⟨_, rfl, _, rfl, p, wl, n, xs, i, rfl, hn.same s1, s1 _ _ hw, l1000, hx.mono s1, fun H' d s hd => q H' d (s1.trans s) hd⟩⟩⟩
theorem ok_Machine___init__X {f : Addr} {fd : FuncData} {C CN CM CB : Addr} (TM : MTxt K mg CM) {dvs : List V} (F : FunD K "__init__" "Machine.__init__" (defArgs s_Machine___init__) (defBody s_Machine___init__) (defScope s_Machine___init__) dvs [] f fd) (c_first_state : CalX P w K mg base 5 "first_state" ["net", "state"] [] (spFirstX K C CN CB)) : FnOk P w K mg base (L2.CX P w) 6 f fd ["self", "net", "state"] (spMInitX K C CN CM CB) := by
  refine F.ok sc_Machine___init__ (fun vs H Q E h => ?_) (fun cdv A outer s H vs Q E hr h => ?_)
  · obtain ⟨m, dx, np, n, v, rfl, _⟩ := h
    rfl
  · obtain ⟨m, dx, np, n, v, rfl, hm, hn, nv, hx, q⟩ := h
    refine ⟨_, (pss_cons (ps_fld (pv 0) (pe_calxS c_first_state hr (takes_of rfl rfl rfl rfl) (pa_cons (pv 1) (pa_cons (pv 2) pa_nil))) rfl)
      (pss_cons (ps_fld (pv 0) (pv 1) rfl)
      (pss_one (ps_fld (pv 0) (pe_lst pa_nil) rfl)))), ?_⟩
    exact ⟨_, rfl, _, rfl, np, n, v, rfl, hn, .inr ⟨nv, hx, q⟩⟩
end
end E1

namespace E1
open PySem PySem.Spec PyProof.Rows L2

def BadO : HO → Prop
  | .tup _ => True
  | .lst _ => True
  | .dK _ => True
  | _ => False
/-- what is no word of a form -/
def BadW (H : Hp) (w : Option Int) (x : V) : Prop := (∃ n, x = .int n ∧ inR w n = false) ∨ (∃ b, x = .bl b) ∨ x = .non ∨ (∃ z, x = .str z) ∨ ∃ p o, x = .ref p ∧ H p = some o ∧ BadO o
theorem BadW.same {H H' : Hp} {w : Option Int} {x : V} (h : BadW H w x) (s : Same H H') : BadW H' w x := by
  rcases h with h | h | h | h | ⟨p, o, e, h1, h2⟩
  · exact .inl h
  · exact .inr (.inl h)
  · exact .inr (.inr (.inl h))
  · exact .inr (.inr (.inr (.inl h)))
  · exact .inr (.inr (.inr (.inr ⟨p, o, e, s _ _ h1, h2⟩)))
theorem BadW.but {H H' : Hp} {a : Addr} {ys : List V} {w : Option Int} {x : V} (h : BadW H w x) (s : SameBut a H H') (ha : H' a = some (.lst ys)) : BadW H' w x := by
  rcases h with h | h | h | h | ⟨p, o, e, h1, h2⟩
  · exact .inl h
  · exact .inr (.inl h)
  · exact .inr (.inr (.inl h))
  · exact .inr (.inr (.inr (.inl h)))
  · by_cases c : p = a
    · subst c
      exact .inr (.inr (.inr (.inr ⟨p, _, e, ha, trivial⟩)))
    · exact .inr (.inr (.inr (.inr ⟨p, o, e, s _ _ c h1, h2⟩)))
theorem BadW.no {K : PySem.W.Frag} {H : Hp} {w : Option Int} {x : V} (h : BadW H w x) : NoWord K H w x := by
  rcases h with ⟨n, e, h⟩ | ⟨b, rfl⟩ | rfl | ⟨z, rfl⟩ | ⟨p, o, rfl, h1, h2⟩
  · exact .inl ⟨n, e, h⟩
  · exact notB
  · exact notI (fun _ _ => .base .non) (by decide +kernel)
  · exact notI (fun _ _ => .base (.str _)) (by decide +kernel)
  · cases o with
    | tup xs => exact notI (fun _ s => .base (.tup (s _ _ h1))) (by decide +kernel)
    | lst xs => exact notI (fun _ s => .base (.lst (s _ _ h1))) (by decide +kernel)
    | dK kv => exact notI (fun _ s => .base (.dK (s _ _ h1))) (by decide +kernel)
    | _ => exact h2.elim
def BadT : HO → Prop
  | .lst _ => True
  | .dK _ => True
  | _ => False
/-- what is no state of a net -/
def BadS (H : Hp) (n : NetP) (x : V) : Prop := (∃ k, x = .int k) ∨ (∃ b, x = .bl b) ∨ x = .non ∨ (∃ z, x = .str z) ∨ (∃ p o, x = .ref p ∧ H p = some o ∧ BadT o) ∨
  (∃ p xs, x = .ref p ∧ H p = some (.tup xs) ∧ xs.length ≠ n.holds.length) ∨
  (∃ p xs, x = .ref p ∧ H p = some (.tup xs) ∧ xs.length = n.holds.length ∧ (∀ (j : Nat) (h : Hold) (v : V), n.holds[j]? = some h → xs[j]? = some v → (∃ k, v = .int k) ∨ BadW H (frm n.fs h.k).w v) ∧ ∃ (j : Nat) (h : Hold) (v : V), n.holds[j]? = some h ∧ xs[j]? = some v ∧ BadW H (frm n.fs h.k).w v)
theorem BadS.map {H H' : Hp} {n : NetP} {x : V} (h : BadS H n x) (k1 : ∀ p o, H p = some o → BadT o → ∃ o', H' p = some o' ∧ BadT o') (k2 : ∀ p xs, H p = some (.tup xs) → H' p = some (.tup xs)) (k3 : ∀ w v, BadW H w v → BadW H' w v) : BadS H' n x := by
  rcases h with h | h | h | h | ⟨p, o, e, h1, h2⟩ | ⟨p, xs, e, h1, h2⟩ | ⟨p, xs, e, h1, h2, h3, j, hh, v, h4, h5, h6⟩
  · exact .inl h
  · exact .inr (.inl h)
  · exact .inr (.inr (.inl h))
  · exact .inr (.inr (.inr (.inl h)))
  · obtain ⟨o', h3, h4⟩ := k1 p o h1 h2
    exact .inr (.inr (.inr (.inr (.inl ⟨p, o', e, h3, h4⟩))))
  · exact .inr (.inr (.inr (.inr (.inr (.inl ⟨p, xs, e, k2 _ _ h1, h2⟩)))))
  · exact .inr (.inr (.inr (.inr (.inr (.inr ⟨p, xs, e, k2 _ _ h1, h2, fun j h v a b => (h3 j h v a b).imp id (k3 _ _), j, hh, v, h4, h5, k3 _ _ h6⟩)))))
theorem BadS.same {H H' : Hp} {n : NetP} {x : V} (h : BadS H n x) (s : Same H H') : BadS H' n x := h.map (fun p o e t => ⟨o, s _ _ e, t⟩) (fun p xs e => s _ _ e) (fun w v b => b.same s)
theorem BadS.but {H H' : Hp} {a : Addr} {xs ys : List V} {n : NetP} {x : V} (h : BadS H n x) (s : SameBut a H H') (h0 : H a = some (.lst xs)) (ha : H' a = some (.lst ys)) : BadS H' n x := h.map (fun p o e t => by
  by_cases c : p = a
  · subst c
    exact ⟨_, ha, trivial⟩
  · exact ⟨o, s _ _ c e, t⟩) (fun p xs e => s _ _ (ne_of e h0 (fun z => nomatch z)) e) (fun w v b => b.but s ha)
theorem BadS.no {K : PySem.W.Frag} {H : Hp} {n : NetP} {x : V} (h : BadS H n x) : NoState K H n x := by
  rcases h with ⟨k, rfl⟩ | ⟨b, rfl⟩ | rfl | ⟨z, rfl⟩ | ⟨p, o, rfl, h1, h2⟩ | ⟨p, xs, e, h1, h2⟩ | ⟨p, xs, e, h1, h2, h3, j, hh, v, h4, h5, h6⟩
  · exact .inl fun _ _ => ⟨_, .base (.int _), by decide +kernel⟩
  · exact .inl fun _ _ => ⟨_, .base (.bl _), by decide +kernel⟩
  · exact .inl fun _ _ => ⟨_, .base .non, by decide +kernel⟩
  · exact .inl fun _ _ => ⟨_, .base (.str _), by decide +kernel⟩
  · cases o with
    | lst xs => exact .inl fun _ s => ⟨_, .base (.lst (s _ _ h1)), by decide +kernel⟩
    | dK kv => exact .inl fun _ s => ⟨_, .base (.dK (s _ _ h1)), by decide +kernel⟩
    | _ => exact h2.elim
  · exact .inr (.inl ⟨p, xs, e, h1, h2⟩)
  · exact .inr (.inr ⟨p, xs, e, h1, h2, fun j h v a b => (h3 j h v a b).imp id BadW.no, j, hh, v, h4, h5, h6.no⟩)
def sp30Bad : Sp := fun vs H Q _ => ∃ (a p : Addr) (f : FormP) (c : Int), vs = [.ref a, .ref p] ∧ H p = some (.tup f.vs) ∧ f.Ok ∧ WellAt H a c ∧ 0 ≤ c ∧ c ≤ 10000 ∧ ∀ (x : V) (H' : Hp), BadW H' f.w x → SameBut a H H' → WellAt H' a (c + 3) → Q x H'
def sp30BadS : Sp := fun vs H Q _ => ∃ (B : Hp) (a hp sa : Addr) (n : NetP) (st : List Int) (c : Int), vs = [.ref a, .ref hp, .ref sa] ∧ Same B H ∧ B a = none ∧ PartsAt B hp n ∧ NetOk n ∧ H sa = some (.tup (st.map V.int)) ∧ st.length = n.holds.length ∧ WellAt H a c ∧ 0 ≤ c ∧ c ≤ 9000 ∧ ∀ (x : V) (H' : Hp), BadS H' n x → SameBut a H H' → WellAt H' a (c + 10) → Q x H'
theorem catA_of {K : PySem.W.Frag} {H : Hp} {a b : Addr} {xs ys : List V} {Q : VK} (ha : H a = some (.tup xs)) (hb : H b = some (.tup ys)) (l : xs.length + ys.length ≤ 1000) (q : ∀ p G, Same H G → G p = some (.tup (xs ++ ys)) → Q (.ref p) G) : rCatA K (.ref a) (.ref b) H Q := by
  refine ⟨a, b, xs, ys, rfl, rfl, SqT.of ha, SqT.of hb, sl_le (by omega), fun e => ?_, fun _ e => ?_, fun _ _ p hp => q p _ (same_new hp) upd_same⟩
  · subst e
    exact q b H (.refl _) hb
  · subst e
    rw [List.append_nil] at q
    exact q a H (.refl _) ha
theorem cut_take {xs : List V} {k : Nat} (h : k ≤ xs.length) : cutV xs none (some (k : Int)) = xs.take k := by
  unfold cutV HT.sIx
  dsimp only
  rw [show (if (k : Int) < 0 then ((k : Int) + (xs.length : Int)).toNat else min (k : Int).toNat xs.length) = k from by split <;> omega, List.drop_zero, Nat.sub_zero]
theorem cut_drop {xs : List V} {k : Nat} (h : k ≤ xs.length) : cutV xs (some (k : Int)) none = xs.drop k := by
  unfold cutV HT.sIx
  dsimp only
  rw [show (if (k : Int) < 0 then ((k : Int) + (xs.length : Int)).toNat else min (k : Int).toNat xs.length) = k from by split <;> omega]
  exact List.take_of_length_le (by rw [List.length_drop]; omega)
theorem put_at {l : List V} {k : Nat} {x : V} (h : k < l.length) : l.take k ++ [x] ++ l.drop (k + 1) = l.set k x := by
  rw [List.set_eq_take_append_cons_drop, if_pos h, List.append_assoc]
  rfl
theorem slA_of {K : PySem.W.Frag} {H : Hp} {a : Addr} {xs : List V} {lo hi : Option Int} {Q : VK} (ha : H a = some (.tup xs)) (n : (cutV xs lo hi).length ≠ xs.length) (q : ∀ p G, Same H G → G p = some (.tup (cutV xs lo hi)) → Q (.ref p) G) : rSlA K (.ref a) lo hi H Q := by
  refine ⟨a, xs, rfl, SqT.of ha, fun e => absurd ?_ n, fun _ p hp => q p _ (same_new hp) upd_same⟩
  unfold cutV
  rw [e.1, e.2, List.drop_zero, Nat.sub_zero, List.take_length]
theorem ints_lay : ∀ l : List Int, PyData.canLayAll0 (l.map PyData.int) = true
  | [] => by simp [PyData.canLayAll0]
  | k :: l => by
    rw [List.map_cons]
    simp [PyData.canLayAll0, PyData.canLay0, ints_lay l]
theorem ints_depth : ∀ l : List Int, PyData.depthAll (l.map PyData.int) ≤ 1
  | [] => by simp [PyData.depthAll]
  | k :: l => by
    rw [List.map_cons]
    have := ints_depth l
    simp [PyData.depthAll, PyData.depth] at this ⊢
    try omega
theorem itup_shaped (l : List Int) : SeqAt.shaped (.tuple (l.map PyData.int)) = true := by
  unfold SeqAt.shaped
  have h := ints_depth l
  rw [show PyData.canLay0 (.tuple (l.map PyData.int)) = true from by simp [PyData.canLay0, ints_lay l], Bool.true_and, decide_eq_true_eq]
  simp [PyData.depth]
  omega
theorem dp_tup {K : PySem.W.Frag} {H : Hp} {p : Addr} {l : List Int} (h : SqT K H p (l.map V.int)) : Dp K H (.ref p) (.tuple (l.map PyData.int)) := .tup h (by
  induction l with
  | nil => exact .nil
  | cons k l ih => exact .cons (.int _) (by
      clear ih h
      induction l with
      | nil => exact .nil
      | cons k l ih => exact .cons (.int _) ih))
theorem tup_nil (l : List Int) : PyData.eqv (.tuple (l.map PyData.int)) (.tuple (([] : List Int).map PyData.int)) = l.isEmpty := by
  cases l with
  | nil => simp [PyData.eqv, PyData.eqvAll]
  | cons k l => simp [PyData.eqv, PyData.eqvAll]
theorem atI_memV {ws : List V} {r : Int} (h0 : 0 ≤ r) (h1 : r < ws.length) : ∃ v ∈ ws, atI ws r = some v := by
  obtain ⟨n, rfl⟩ : ∃ n : Nat, r = n := ⟨r.toNat, by omega⟩
  have hl : n < ws.length := by omega
  exact ⟨ws[n], List.getElem_mem hl, atI_nat (List.getElem?_eq_getElem hl)⟩
section
variable {P : Program} {w : World} {K : PySem.W.Frag} {mg : Str → Option Value} {base : Heap}
theorem sc__law_bad_word : FnScope ["_law_well_here", "_law_form_here", "_law_some", "_law_room"] ["_law_well_here", "_law_form_here"] (defScope s__law_bad_word) := ⟨rfl, rfl, rfl, by decide +kernel, rfl, by decide +kernel, by decide +kernel⟩
theorem ok__law_bad_word {f : Addr} {fd : FuncData} (F : Fun K "_law_bad_word" "_law_bad_word" s__law_bad_word f fd) (z : Zs mg) (c__law_draw : Cal P w K mg base 1 "_law_draw" ["_law_well_here", "_law_many"] spDraw) : FnOk P w K mg base CX0 2 f fd ["_law_well_here", "_law_form_here"] sp30Bad := by
  refine F.ok sc__law_bad_word (fun vs H Q E h => ?_) (fun cdv A outer s H vs Q E hr h => ?_)
  · obtain ⟨a, p, f, c, rfl, _⟩ := h
    rfl
  · obtain ⟨a, p, f, c, rfl, hp, fo, hw, c0, c1, q⟩ := h
    refine ⟨_, (pss_cons (ps_set (i := 2) sc__law_bad_word.nd rfl (.inl rfl) (pe_lst (pa_cons pe_non (pa_cons pe_bl (pa_cons pe_bl (pa_cons pe_str (pa_cons pe_str (pa_cons (pe_tup (pa_cons pe_int pa_nil)) (pa_cons (pe_lst (pa_cons pe_int pa_nil)) (pa_cons pe_dnewK pa_nil))))))))))
      (C8.pss_cut (ps_if (pt_cmpR op_notN (pe_ix ix_tup (pv 1) pe_int (fun _ _ => rfl)) pe_non (nomark _)) (pss_cons (ps_set (i := 3) sc__law_bad_word.nd rfl (.inl rfl) (pe_op op_shlW pe_int (pe_op op_sub (pe_ix ix_tup (pv 1) pe_int (fun _ _ => rfl)) pe_int)))
      (pss_one (ps_set (i := 2) sc__law_bad_word.nd rfl (.inl rfl) (pe_op op_cat (pv 2) (pe_lst (pa_cons (pv 3) (pa_cons (pe_op op_sub (pe_op op_sub pe_int (pv 3)) pe_int) (pa_cons (pe_op op_add (pv 3) (pe_cal c__law_draw hr (pa_cons (pv 0) (pa_cons (pe_op op_pow pe_int pe_int) pa_nil)))) (pa_cons (pe_op op_sub pe_int (pe_op op_mul pe_int (pv 3))) pa_nil))))))))) pss_nil)
      (pss_one (ps_ret (pe_ix ix_list (pv 2) (pe_cal c__law_draw hr (pa_cons (pv 0) (pa_cons (pe_callB call_len_seq (by rfl) z.len PySem.boot_len (pa_cons (pv 2) pa_nil)) pa_nil))) (fun _ _ => rfl)))))), ?_⟩
    obtain ⟨w, pt, m, sto⟩ := f
    have wo := fo.wo
    refine ⟨(by show 1 ≤ sizeLine; decide), fun t ht => ?_⟩
    generalize hG1 : upd _ t _ = G1
    obtain ⟨s1, h_t⟩ := upd_gen hG1 ht
    refine ⟨(by show 1 ≤ sizeLine; decide), fun l hl => ?_⟩
    generalize hG2 : upd _ l _ = G2
    obtain ⟨s2, h_l⟩ := upd_gen hG2 hl
    refine fun d hd => ?_
    generalize hG3 : upd _ d _ = G3
    obtain ⟨s3, h_d⟩ := upd_gen hG3 hd
    refine ⟨(by show 8 ≤ sizeLine; decide), fun L hL => ?_⟩
    generalize hG4 : upd _ L _ = G4
    obtain ⟨s4, h_L⟩ := upd_gen hG4 hL
    have S4 := (s1.trans s2).trans (s3.trans s4)
    have w4 := hw.same S4
    have nL : L ≠ a := (hw.same ((s1.trans s2).trans s3)).ne hL
    have A8 : ∀ x ∈ [V.non, V.bl true, V.bl false, V.str "0", V.str "", V.ref t, V.ref l, V.ref d], BadW G4 w x := fun x hx => by
      simp only [List.mem_cons, List.mem_nil_iff, or_false] at hx
      rcases hx with rfl | rfl | rfl | rfl | rfl | rfl | rfl | rfl
      · exact .inr (.inr (.inl rfl))
      · exact .inr (.inl ⟨_, rfl⟩)
      · exact .inr (.inl ⟨_, rfl⟩)
      · exact .inr (.inr (.inr (.inl ⟨_, rfl⟩)))
      · exact .inr (.inr (.inr (.inl ⟨_, rfl⟩)))
      · exact .inr (.inr (.inr (.inr ⟨_, _, rfl, s4 _ _ (s3 _ _ (s2 _ _ h_t)), trivial⟩)))
      · exact .inr (.inr (.inr (.inr ⟨_, _, rfl, s4 _ _ (s3 _ _ h_l), trivial⟩)))
      · exact .inr (.inr (.inr (.inr ⟨_, _, rfl, s4 _ _ h_d, trivial⟩)))
    refine ⟨fun σ G => ∃ (L : Addr) (xs : List V) (y : Option V), σ = [some (.ref a), some (.ref p), some (.ref L), y] ∧ G L = some (.lst xs) ∧ (∀ x ∈ xs, BadW G w x) ∧ 1 ≤ xs.length ∧ xs.length ≤ 12 ∧ SameBut a H G ∧ WellAt G a (c + 1) ∧ L ≠ a, ?_, fun σ G hM => ?_⟩
    · refine ⟨_, rfl, p, _, 0, wV w, rfl, rfl, SqT.of (S4 _ _ hp), a0, ?_⟩
      cases w with
      | none => exact ⟨rfl, _, rfl, iteF ⟨L, _, _, rfl, h_L, A8, by show 1 ≤ 8; decide, by show 8 ≤ 12; decide, .of S4, w4.mono (by omega), nL⟩⟩
      | some y =>
        obtain ⟨y0, y1⟩ := wo y rfl
        have rm : (1 : Int) * 2 ^ (y - 1).toNat = two (y - 1) := Int.one_mul _
        have r0 := two_pos (y - 1)
        have rb : (two (y - 1)).natAbs < 2 ^ 64 := by
          unfold two
          exact two_pow_lt (by omega)
        have no : ∀ s : Int, s < -(two (y - 1)) ∨ two (y - 1) - 1 < s → inR (some y) s = false := fun s h => by
          show (decide (-(two (y - 1)) ≤ s) && decide (s ≤ two (y - 1) - 1)) = false
          rcases h with h | h
          · rw [decide_eq_false (by omega)]
            rfl
          · rw [decide_eq_false (show ¬ s ≤ two (y - 1) - 1 by omega), Bool.and_false]
        refine ⟨rfl, _, rfl, iteT ⟨_, rfl, p, _, 0, .int y, rfl, rfl, SqT.of (S4 _ _ hp), a0, _, _, rfl, rfl, _, _, rfl, rfl, ?_, ?_⟩⟩
        · have e : y - 1 = (((y - 1).toNat : Nat) : Int) := by omega
          rw [e]
          exact shl_ok (n := 1) (by decide) (by omega)
        dsimp only
        rw [rm]
        refine ⟨_, rfl, _, rfl, _, rfl, _, _, rfl, rfl, _, _, rfl, rfl, _, rfl, _, rfl, _, _, rfl, rfl, ⟨by decide, by decide, by decide⟩, a, c, 10 ^ (9 : Int).toNat, rfl, w4, by omega, by decide, by decide +kernel, fun r5 H5 r50 r51 d5 e5 w5 => ⟨_, _, rfl, rfl, _, rfl, _, _, rfl, rfl, .inl ⟨by decide, by decide⟩, _, _, rfl, rfl, (by show 4 ≤ sizeLine; decide), fun l6 hl6 => ?_⟩⟩
        generalize hG6 : upd _ l6 _ = G6
        obtain ⟨s6, h_l6⟩ := upd_gen hG6 hl6
        refine ⟨L, l6, _, _, rfl, rfl, s6 _ _ (d5 _ _ nL h_L), h_l6, sl_le (by simp only [List.length_cons, List.length_nil]; omega), fun l7 hl7 => ?_⟩
        generalize hG7 : upd _ l7 _ = G7
        obtain ⟨s7, h_l7⟩ := upd_gen hG7 hl7
        have w7 := (w5.same s6).same s7
        obtain ⟨ws7, hw7⟩ := w7.lst
        have n7 : l7 ≠ a := (w5.same s6).ne hl7
        refine ⟨l7, _, _, rfl, h_l7, fun x hx => ?_, by simp only [List.length_append, List.length_cons]; omega, by simp only [List.length_append, List.length_cons, List.length_nil]; omega, (SameBut.of S4).trans (d5.trans ((SameBut.of s6).trans (.of s7))), w7, n7⟩
        rcases List.mem_append.mp hx with hx | hx
        · exact (A8 x hx).but (d5.trans ((SameBut.of s6).trans (.of s7))) hw7
        · simp only [List.mem_cons, List.mem_nil_iff, or_false] at hx
          rcases hx with rfl | rfl | rfl | rfl
          · exact .inl ⟨_, rfl, no _ (.inr (by omega))⟩
          · exact .inl ⟨_, rfl, no _ (.inl (by omega))⟩
          · exact .inl ⟨_, rfl, no _ (.inr (by omega))⟩
          · exact .inl ⟨_, rfl, no _ (.inl (by omega))⟩
    · obtain ⟨L, xs, y, rfl, hL2, hx, l1, l12, sb, wl, nL2⟩ := hM
      refine ⟨_, rfl, _, rfl, _, rfl, L, _, rfl, .inl (SqL.of hL2), a, c + 1, (xs.length : Int), rfl, wl, by omega, by omega, Nat.lt_of_le_of_lt (show _ ≤ 1000 by omega) (by decide +kernel), fun r H2 r0 r1 d2 e2 w2 => ?_⟩
      obtain ⟨v, hv, iv⟩ := atI_memV r0 r1
      obtain ⟨ws2, hw2⟩ := w2.lst
      refine ⟨L, _, r, v, rfl, rfl, SqL.of (d2 _ _ nL2 hL2), iv, ?_⟩
      exact q v H2 ((hx v hv).but d2 hw2) (sb.trans d2) (w2.mono (by omega))
theorem sc__law_bad_state : FnScope ["_law_well_here", "_law_parts", "_law_stand", "_law_sort", "_law_at", "_law_some"] ["_law_well_here", "_law_parts", "_law_stand"] (defScope s__law_bad_state) := ⟨rfl, rfl, rfl, by decide +kernel, rfl, by decide +kernel, by decide +kernel⟩
theorem ok__law_bad_state {f : Addr} {fd : FuncData} (F : Fun K "_law_bad_state" "_law_bad_state" s__law_bad_state f fd) (z : Zs mg) (c__law_draw : Cal P w K mg base 1 "_law_draw" ["_law_well_here", "_law_many"] spDraw) (c__law_bad_word : Cal P w K mg base 2 "_law_bad_word" ["_law_well_here", "_law_form_here"] sp30Bad) : FnOk P w K mg base CX0 3 f fd ["_law_well_here", "_law_parts", "_law_stand"] sp30BadS := by
  refine F.ok sc__law_bad_state (fun vs H Q E h => ?_) (fun cdv A outer s H vs Q E hr h => ?_)
  · obtain ⟨B, a, hp, sa, n, st, c, rfl, _⟩ := h
    rfl
  · obtain ⟨B, a, hp, sa, n, st, c, rfl, BS, ba, hpp, nok, hsa, sl, hw, c0, c1, q⟩ := h
    refine ⟨_, (pss_cons (ps_set (i := 3) sc__law_bad_state.nd rfl (.inl rfl) (pe_cal c__law_draw hr (pa_cons (pv 0) (pa_cons pe_int pa_nil))))
      (pss_cons (ps_if (PW.pt (pw_and (pt_cmpR op_lt (pv 3) pe_int (nomark _)) (pw_and1 (pt_cmpR (op_neD hr.units) (pv 2) (pe_tup pa_nil) (nomark _))))) (pss_cons (ps_set (i := 4) sc__law_bad_state.nd rfl (.inl rfl) (pe_cal c__law_draw hr (pa_cons (pv 0) (pa_cons (pe_callB call_len_seq (by rfl) z.len PySem.boot_len (pa_cons (pv 2) pa_nil)) pa_nil))))
      (pss_one (ps_ret (pe_op op_catA (pe_op op_catA (pe_slice sl_tupA (pv 2) po_none (po_some (pv 4))) (pe_tup (pa_cons (pe_cal c__law_bad_word hr (pa_cons (pv 0) (pa_cons (pe_ix ix_list (pe_ix ix_tup (pv 1) pe_int (fun _ _ => rfl)) (pe_ix ix_tup (pe_ix ix_list (pe_ix ix_tup (pv 1) pe_int (fun _ _ => rfl)) (pv 4) (fun _ _ => rfl)) pe_int (fun _ _ => rfl)) (fun _ _ => rfl)) pa_nil))) pa_nil))) (pe_slice sl_tupA (pv 2) (po_some (pe_op op_add (pv 4) pe_int)) po_none))))) pss_nil)
      (pss_cons (ps_set (i := 5) sc__law_bad_state.nd rfl (.inl rfl) (pe_lst (pa_cons (pe_callTy call_list_of (by rfl) z.list (by decide +kernel) (pa_cons (pv 2) pa_nil)) (pa_cons (pe_op op_catA (pv 2) (pe_tup (pa_cons pe_int pa_nil))) (pa_cons pe_non (pa_cons pe_int (pa_cons pe_str (pa_cons pe_dnewK (pa_cons pe_bl (pa_cons (pe_lst (pa_cons pe_non pa_nil)) pa_nil))))))))))
      (C8.pss_cut (ps_if (pt_cmpR (op_neD hr.units) (pv 2) (pe_tup pa_nil) (nomark _)) (pss_one (ps_set (i := 5) sc__law_bad_state.nd rfl (.inl rfl) (pe_op op_cat (pv 5) (pe_lst (pa_cons (pe_slice sl_tupA (pv 2) (po_some pe_int) po_none) (pa_cons (pe_tup pa_nil) pa_nil)))))) pss_nil)
      (pss_one (ps_ret (pe_ix ix_list (pv 5) (pe_cal c__law_draw hr (pa_cons (pv 0) (pa_cons (pe_callB call_len_seq (by rfl) z.len PySem.boot_len (pa_cons (pv 5) pa_nil)) pa_nil))) (fun _ _ => rfl)))))))), ?_⟩
    obtain ⟨fa, ra, ha, hhp, ⟨fv, hfa, tf⟩, ⟨rv, hra, tr⟩, ⟨hv, hha, th⟩⟩ := id hpp
    have h6 := nok.h2
    have lst : (st.map V.int).length = st.length := List.length_map ..
    refine ⟨_, rfl, a, c, 6, rfl, hw, by omega, by decide, by decide +kernel, fun r1 H1 r10 r11 d1 e1 w1 => ?_⟩
    have BS1 := same_but BS d1 ba
    have nsa : sa ≠ a := fun e => by
      obtain ⟨ys, hy⟩ := hw.lst
      rw [e, hy] at hsa
      cases hsa
    have hsa1 := d1 _ _ nsa hsa
    obtain ⟨ws0, hw0⟩ := hw.lst
    refine ⟨_, rfl, _, _, rfl, rfl, _, rfl, ite2 (fun lt3 => ⟨_, rfl, (by show 0 ≤ sizeLine; decide), fun z hz => ?_⟩) (fun _ => ?_)⟩
    · generalize hGz : upd _ z _ = Gz
      obtain ⟨sz, h_z⟩ := upd_gen hGz hz
      refine ⟨.tuple (st.map PyData.int), .tuple (([] : List Int).map PyData.int), dp_tup (SqT.of (sz _ _ hsa1)), .tup (SqT.of h_z) .nil, itup_shaped _, itup_shaped [], _, rfl, ?_⟩
      rw [tup_nil]
      have wz := (w1.same sz)
      have BSz := BS1.trans sz
      have hsz := sz _ _ hsa1
      have Dz := d1.trans (.of sz)
      cases st with
      | nil =>
        refine iteF ?_
        have sl0 : n.holds.length = 0 := sl.symm
        have r_sb := Dz
        have r_wl := wz
        have r_hs := hsz
        obtain ⟨r_ws, r_hw⟩ := r_wl.lst
        refine ⟨_, rfl, sa, _, rfl, .inr (SqT.of r_hs), fun l1 hl1 => ?_⟩
        generalize hG1 : upd _ l1 _ = G1
        obtain ⟨s1, h_l1⟩ := upd_gen hG1 hl1
        refine ⟨_, rfl, (by show 1 ≤ sizeLine; decide), fun t2 ht2 => ?_⟩
        generalize hG2 : upd _ t2 _ = G2
        obtain ⟨s2, h_t2⟩ := upd_gen hG2 ht2
        refine catA_of (s2 _ _ (s1 _ _ r_hs)) h_t2 (by rw [List.length_map]; simp only [List.length_cons, List.length_nil]; omega) fun p3 G3 s3 h_p3 => ?_
        refine fun d4 hd4 => ?_
        generalize hG4 : upd _ d4 _ = G4
        obtain ⟨s4, h_d4⟩ := upd_gen hG4 hd4
        refine ⟨(by show 1 ≤ sizeLine; decide), fun l5 hl5 => ?_⟩
        generalize hG5 : upd _ l5 _ = G5
        obtain ⟨s5, h_l5⟩ := upd_gen hG5 hl5
        refine ⟨(by show 8 ≤ sizeLine; decide), fun L hL => ?_⟩
        generalize hG6 : upd _ L _ = G6
        obtain ⟨s6, h_L⟩ := upd_gen hG6 hL
        have S5 := ((s1.trans s2).trans (s3.trans s4)).trans s5
        have S6 := S5.trans s6
        have nL : L ≠ a := (r_wl.same S5).ne hL
        have S36 := (s4.trans s5).trans s6
        have A8 : ∀ x ∈ [V.ref l1, V.ref p3, V.non, V.int 0, V.str "", V.ref d4, V.bl true, V.ref l5], BadS G6 n x := fun x hx => by
          simp only [List.mem_cons, List.mem_nil_iff, or_false] at hx
          rcases hx with rfl | rfl | rfl | rfl | rfl | rfl | rfl | rfl
          · exact .inr (.inr (.inr (.inr (.inl ⟨_, _, rfl, S36 _ _ (s3 _ _ (s2 _ _ h_l1)), trivial⟩))))
          · exact .inr (.inr (.inr (.inr (.inr (.inl ⟨_, _, rfl, S36 _ _ h_p3, by rw [List.length_append, List.length_map]; simp only [List.length_cons, List.length_nil]; omega⟩)))))
          · exact .inr (.inr (.inl rfl))
          · exact .inl ⟨_, rfl⟩
          · exact .inr (.inr (.inr (.inl ⟨_, rfl⟩)))
          · exact .inr (.inr (.inr (.inr (.inl ⟨_, _, rfl, s6 _ _ (s5 _ _ h_d4), trivial⟩))))
          · exact .inr (.inl ⟨_, rfl⟩)
          · exact .inr (.inr (.inr (.inr (.inl ⟨_, _, rfl, s6 _ _ h_l5, trivial⟩))))
        refine ⟨fun σ G => ∃ (L : Addr) (xs : List V), σ = [some (.ref a), some (.ref hp), some (.ref sa), some (.int r1), none, some (.ref L)] ∧ G L = some (.lst xs) ∧ (∀ x ∈ xs, BadS G n x) ∧ 1 ≤ xs.length ∧ xs.length ≤ 10 ∧ SameBut a H G ∧ WellAt G a (c + 1) ∧ L ≠ a, ?_, fun σ G hM => ?_⟩
        · refine ⟨_, rfl, (by show 0 ≤ sizeLine; decide), fun y hy => ?_⟩
          generalize hG7 : upd _ y _ = G7
          obtain ⟨s7, h_y⟩ := upd_gen hG7 hy
          have r_hs7 := s7 _ _ (S6 _ _ r_hs)
          have S7 := S6.trans s7
          refine ⟨.tuple (([] : List Int).map PyData.int), .tuple (([] : List Int).map PyData.int), dp_tup (SqT.of r_hs7), .tup (SqT.of h_y) .nil, itup_shaped _, itup_shaped [], _, rfl, ?_⟩
          rw [tup_nil]
          exact iteF ⟨L, _, rfl, s7 _ _ h_L, fun x hx => (A8 x hx).same s7, by show 1 ≤ 8; decide, by show 8 ≤ 10; decide, r_sb.trans (.of S7), r_wl.same S7, nL⟩
        · obtain ⟨L, xs, rfl, hL2, hx, l1, l12, sb, wl, nL2⟩ := hM
          refine ⟨_, rfl, _, rfl, _, rfl, L, _, rfl, .inl (SqL.of hL2), a, c + 1, (xs.length : Int), rfl, wl, by omega, by omega, Nat.lt_of_le_of_lt (show _ ≤ 1000 by omega) (by decide +kernel), fun r H2 r0 r1 d2 e2 w2 => ?_⟩
          obtain ⟨v, hv, iv⟩ := atI_memV r0 r1
          obtain ⟨ws1, hw1⟩ := wl.lst
          obtain ⟨ws2, hw2⟩ := w2.lst
          refine ⟨L, _, r, v, rfl, rfl, SqL.of (d2 _ _ nL2 hL2), iv, ?_⟩
          exact q v H2 ((hx v hv).but d2 hw1 hw2) (sb.trans d2) (w2.mono (by omega))
      | cons k0 kt =>
        refine iteT ?_
        have st1 : 1 ≤ (k0 :: kt).length := by simp only [List.length_cons]; omega
        generalize k0 :: kt = st at *
        refine ⟨_, rfl, _, rfl, sa, _, rfl, .inr (SqT.of hsz), a, c + 1, ((st.map V.int).length : Int), rfl, wz, by omega, by have : 1 ≤ st.length := st1; omega, Nat.lt_of_le_of_lt (show _ ≤ 1000 by omega) (by decide +kernel), fun r2 H2 r20 r21 d2 e2 w2 => ?_⟩
        obtain ⟨k, rfl⟩ : ∃ k : Nat, r2 = k := ⟨r2.toNat, by omega⟩
        have kl : k < st.length := by omega
        have hs2 := d2 _ _ nsa hsz
        refine ⟨_, rfl, _, rfl, _, rfl, ?_⟩
        refine slA_of hs2 (by rw [cut_take (by omega), List.length_take]; omega) fun p1 G1 s1 h_p1 => ?_
        rw [cut_take (by omega)] at h_p1
        have BS2 := (same_but BSz d2 ba).trans s1
        have ek := List.getElem?_eq_getElem (show k < n.holds.length by omega)
        generalize n.holds[k] = hh at ek
        obtain ⟨q1, eq1, hq1⟩ := th.at (i := k) (xs := hh.vs) (by rw [List.getElem?_map, ek]; rfl)
        have hk := (nok.ho hh (List.mem_of_getElem? ek)).1
        have ef := List.getElem?_eq_getElem hk
        obtain ⟨fp, ep, hfp⟩ := tf.at (i := hh.k) (xs := (frm n.fs hh.k).vs) (by rw [List.getElem?_map, ef, frm_at ef]; rfl)
        have fo : (frm n.fs hh.k).Ok := by
          rw [frm_at ef]
          exact nok.fo _ (List.getElem_mem _)
        refine ⟨_, rfl, _, rfl, hp, _, 0, .ref fa, rfl, rfl, SqT.of (BS2 _ _ hhp), a0, _, rfl, hp, _, 3, .ref ha, rfl, rfl, SqT.of (BS2 _ _ hhp), atI_nat (j := 3) rfl, _, rfl, ha, _, _, .ref q1, rfl, rfl, SqL.of (BS2 _ _ hha), atI_nat eq1, q1, _, 0, .int hh.k, rfl, rfl, SqT.of (BS2 _ _ hq1), a0, fa, _, _, .ref fp, rfl, rfl, SqL.of (BS2 _ _ hfa), atI_nat ep, a, fp, frm n.fs hh.k, c + 1 + 1, rfl, BS2 _ _ hfp, fo, w2.same s1, by omega, by omega, fun x H3 bx d3 w3 => ?_⟩
        refine ⟨(by show 1 ≤ sizeLine; decide), fun t4 ht4 => ?_⟩
        generalize hG4 : upd _ t4 _ = G4
        obtain ⟨s4, h_t4⟩ := upd_gen hG4 ht4
        obtain ⟨ws1, hw1⟩ := (w2.same s1).lst
        have np1 : p1 ≠ a := fun e => by
          rw [e, hw1] at h_p1
          cases h_p1
        refine catA_of (s4 _ _ (d3 _ _ np1 h_p1)) h_t4 (by rw [List.length_take]; simp only [List.length_cons, List.length_nil]; omega) fun p5 G5 s5 h_p5 => ?_
        have hs5 := s5 _ _ (s4 _ _ (d3 _ _ nsa (s1 _ _ hs2)))
        refine ⟨_, rfl, _, rfl, _, _, rfl, rfl, _, rfl, ?_⟩
        have ec : cutV (st.map V.int) (some ((k : Int) + 1)) none = (st.map V.int).drop (k + 1) := by
          rw [show (k : Int) + 1 = ((k + 1 : Nat) : Int) from rfl]
          exact cut_drop (by omega)
        dsimp only [tNoPart]
        refine slA_of hs5 (by rw [ec, List.length_drop]; omega) fun p6 G6 s6 h_p6 => ?_
        rw [ec] at h_p6
        refine catA_of (s6 _ _ h_p5) h_p6 (by simp only [List.length_append, List.length_take, List.length_drop, List.length_cons, List.length_nil]; omega) fun p7 G7 s7 h_p7 => ?_
        rw [put_at (by omega)] at h_p7
        have S7 := ((s4.trans s5).trans s6).trans s7
        refine q (.ref p7) G7 (.inr (.inr (.inr (.inr (.inr (.inr ⟨p7, _, rfl, h_p7, by rw [List.length_set]; omega, fun j h2 v e1 e2 => ?_, k, hh, x, ek, ?_, bx.same S7⟩)))))) (Dz.trans (d2.trans ((SameBut.of s1).trans (d3.trans (.of S7))))) ((w3.same S7).mono (by omega))
        · by_cases cj : j = k
          · subst cj
            rw [List.getElem?_set_self (by omega)] at e2
            cases e2
            rw [ek] at e1
            cases e1
            exact .inr (bx.same S7)
          · rw [List.getElem?_set_ne (fun z => cj z.symm), List.getElem?_map] at e2
            obtain ⟨m, _, rfl⟩ := Option.map_eq_some_iff.mp e2
            exact .inl ⟨m, rfl⟩
        · rw [List.getElem?_set_self (by omega)]
    · have BSx := BS1
      have r_sb := d1
      have r_wl := w1
      have r_hs := hsa1
      obtain ⟨r_ws, r_hw⟩ := r_wl.lst
      refine ⟨_, rfl, sa, _, rfl, .inr (SqT.of r_hs), fun l1 hl1 => ?_⟩
      generalize hG1 : upd _ l1 _ = G1
      obtain ⟨s1, h_l1⟩ := upd_gen hG1 hl1
      refine ⟨_, rfl, (by show 1 ≤ sizeLine; decide), fun t2 ht2 => ?_⟩
      generalize hG2 : upd _ t2 _ = G2
      obtain ⟨s2, h_t2⟩ := upd_gen hG2 ht2
      refine catA_of (s2 _ _ (s1 _ _ r_hs)) h_t2 (by rw [List.length_map]; simp only [List.length_cons, List.length_nil]; omega) fun p3 G3 s3 h_p3 => ?_
      refine fun d4 hd4 => ?_
      generalize hG4 : upd _ d4 _ = G4
      obtain ⟨s4, h_d4⟩ := upd_gen hG4 hd4
      refine ⟨(by show 1 ≤ sizeLine; decide), fun l5 hl5 => ?_⟩
      generalize hG5 : upd _ l5 _ = G5
      obtain ⟨s5, h_l5⟩ := upd_gen hG5 hl5
      refine ⟨(by show 8 ≤ sizeLine; decide), fun L hL => ?_⟩
      generalize hG6 : upd _ L _ = G6
      obtain ⟨s6, h_L⟩ := upd_gen hG6 hL
      have S5 := ((s1.trans s2).trans (s3.trans s4)).trans s5
      have S6 := S5.trans s6
      have nL : L ≠ a := (r_wl.same S5).ne hL
      have S36 := (s4.trans s5).trans s6
      have A8 : ∀ x ∈ [V.ref l1, V.ref p3, V.non, V.int 0, V.str "", V.ref d4, V.bl true, V.ref l5], BadS G6 n x := fun x hx => by
        simp only [List.mem_cons, List.mem_nil_iff, or_false] at hx
        rcases hx with rfl | rfl | rfl | rfl | rfl | rfl | rfl | rfl
        · exact .inr (.inr (.inr (.inr (.inl ⟨_, _, rfl, S36 _ _ (s3 _ _ (s2 _ _ h_l1)), trivial⟩))))
        · exact .inr (.inr (.inr (.inr (.inr (.inl ⟨_, _, rfl, S36 _ _ h_p3, by rw [List.length_append, List.length_map]; simp only [List.length_cons, List.length_nil]; omega⟩)))))
        · exact .inr (.inr (.inl rfl))
        · exact .inl ⟨_, rfl⟩
        · exact .inr (.inr (.inr (.inl ⟨_, rfl⟩)))
        · exact .inr (.inr (.inr (.inr (.inl ⟨_, _, rfl, s6 _ _ (s5 _ _ h_d4), trivial⟩))))
        · exact .inr (.inl ⟨_, rfl⟩)
        · exact .inr (.inr (.inr (.inr (.inl ⟨_, _, rfl, s6 _ _ h_l5, trivial⟩))))
      refine ⟨fun σ G => ∃ (L : Addr) (xs : List V), σ = [some (.ref a), some (.ref hp), some (.ref sa), some (.int r1), none, some (.ref L)] ∧ G L = some (.lst xs) ∧ (∀ x ∈ xs, BadS G n x) ∧ 1 ≤ xs.length ∧ xs.length ≤ 10 ∧ SameBut a H G ∧ WellAt G a (c + 1) ∧ L ≠ a, ?_, fun σ G hM => ?_⟩
      · refine ⟨_, rfl, (by show 0 ≤ sizeLine; decide), fun y hy => ?_⟩
        generalize hG7 : upd _ y _ = G7
        obtain ⟨s7, h_y⟩ := upd_gen hG7 hy
        have r_hs7 := s7 _ _ (S6 _ _ r_hs)
        have S7 := S6.trans s7
        refine ⟨.tuple (st.map PyData.int), .tuple (([] : List Int).map PyData.int), dp_tup (SqT.of r_hs7), .tup (SqT.of h_y) .nil, itup_shaped _, itup_shaped [], _, rfl, ?_⟩
        rw [tup_nil]
        cases st with
          | nil => exact iteF ⟨L, _, rfl, s7 _ _ h_L, fun x hx => (A8 x hx).same s7, by show 1 ≤ 8; decide, by show 8 ≤ 10; decide, r_sb.trans (.of S7), r_wl.same S7, nL⟩
          | cons k0 kt =>
            refine iteT ⟨_, rfl, _, rfl, _, rfl, ?_⟩
            dsimp only [tNoPart]
            refine slA_of r_hs7 (by rw [show (1 : Int) = ((1 : Nat) : Int) from rfl, cut_drop (by rw [List.length_map]; simp only [List.length_cons]; omega), List.length_drop, List.length_map]; simp only [List.length_cons]; omega) fun p8 G8 s8 h_p8 => ?_
            refine ⟨(by show 0 ≤ sizeLine; decide), fun t9 ht9 => ?_⟩
            generalize hG9 : upd _ t9 _ = G9
            obtain ⟨s9, h_t9⟩ := upd_gen hG9 ht9
            refine ⟨(by show 2 ≤ sizeLine; decide), fun l10 hl10 => ?_⟩
            generalize hG10 : upd _ l10 _ = G10
            obtain ⟨s10, h_l10⟩ := upd_gen hG10 hl10
            have S710 := (s7.trans s8).trans (s9.trans s10)
            refine ⟨L, l10, _, _, rfl, rfl, S710 _ _ h_L, h_l10, sl_le (by simp only [List.length_cons, List.length_nil]; omega), fun l11 hl11 => ?_⟩
            generalize hG11 : upd _ l11 _ = G11
            obtain ⟨s11, h_l11⟩ := upd_gen hG11 hl11
            have S11 := S6.trans (S710.trans s11)
            have w10 := (r_wl.same S6).same S710
            refine ⟨l11, _, rfl, h_l11, fun x hx => ?_, by simp only [List.length_append, List.length_cons]; omega, by simp only [List.length_append, List.length_cons, List.length_nil]; omega, r_sb.trans (.of S11), w10.same s11, w10.ne hl11⟩
            rcases List.mem_append.mp hx with hx | hx
            · exact (A8 x hx).same (S710.trans s11)
            · simp only [List.mem_cons, List.mem_nil_iff, or_false] at hx
              rcases hx with rfl | rfl
              · refine .inr (.inr (.inr (.inr (.inr (.inl ⟨_, _, rfl, s11 _ _ (s10 _ _ (s9 _ _ h_p8)), ?_⟩)))))
                rw [show (1 : Int) = ((1 : Nat) : Int) from rfl, cut_drop (by rw [List.length_map]; simp only [List.length_cons]; omega), List.length_drop, List.length_map]
                simp only [List.length_cons] at sl ⊢
                omega
              · refine .inr (.inr (.inr (.inr (.inr (.inl ⟨_, _, rfl, s11 _ _ (s10 _ _ h_t9), ?_⟩)))))
                simp only [List.length_cons] at sl
                simp only [List.length_nil]
                omega
      · obtain ⟨L, xs, rfl, hL2, hx, l1, l12, sb, wl, nL2⟩ := hM
        refine ⟨_, rfl, _, rfl, _, rfl, L, _, rfl, .inl (SqL.of hL2), a, c + 1, (xs.length : Int), rfl, wl, by omega, by omega, Nat.lt_of_le_of_lt (show _ ≤ 1000 by omega) (by decide +kernel), fun r H2 r0 r1 d2 e2 w2 => ?_⟩
        obtain ⟨v, hv, iv⟩ := atI_memV r0 r1
        obtain ⟨ws1, hw1⟩ := wl.lst
        obtain ⟨ws2, hw2⟩ := w2.lst
        refine ⟨L, _, r, v, rfl, rfl, SqL.of (d2 _ _ nL2 hL2), iv, ?_⟩
        exact q v H2 ((hx v hv).but d2 hw1 hw2) (sb.trans d2) (w2.mono (by omega))
end
end E1

namespace E1
open PySem PySem.Spec PyProof.Rows L2
/-! ### a lambda called by the def that got it, with that def's own slots in what it wants of errors -/
section
variable {X : Cx}
abbrev lamQ (X : Cx) : Str := X.env.qual ++ "<lambda>"
abbrev lamOb (X : Cx) (pr : Arguments) (bd : Expr) (sc : Scope) (nm : Value) (cd : Addr) (ctx : Value) : Obj := PySem.W.kla_obj "<lambda>" (lamQ X) pr bd sc (cloFrom X.env.cells sc.names []) nm cd ctx
/-- the context of the def at g, called from X at state s -/
abbrev gotCx (X : Cx) (Ng : List Str) (qg : Str) (sg : Scope) (g : Addr) (cdg : Value) (s : Shared) (H : Hp) : Cx := cxOf C8.CX0 X.prog X.w X.K X.mg X.base Ng qg sg g cdg X.A X.stack s H C8.E0
theorem pe_actS {pins : List (Addr × Obj)} {σ : L2.St} {H : Hp} {s : Shared} {Ng : List Str} {qg : Str} {sg : Scope} {g fl cd : Addr} {cdg nm ctx : Value} {pr : Arguments} {bd : Expr} {sc : Scope} {k i : Nat} {a : Str} {pn : List (Addr × Obj)} {xe : Value → Shared → Prop} {W : WX} {t : XK → TE} {p1 p2 : Pos}
    (I : Inv X pins σ H s) (L : LamX.LamS X.env.scope sc) (ho : s.heap.get? fl = some (lamOb X pr bd sc nm cd ctx)) (hn : H fl = none) (hs : fl ∉ frs X.stack)
    (hb : bindArgs (PySem.W.kla_fn "<lambda>" (lamQ X) pr bd sc (cloFrom X.env.cells sc.names []) nm (.ref cd) ctx) ⟨[], []⟩ = pure [])
    (tk : Takes ((gotCx X Ng qg sg g cdg s H).tr pn xe) W) (rm : Room (k + 1) (X.A.deeper (envOfC qg sg s.heap.objs.size g cdg)))
    (hbd : ∀ (E : XK) (A : Around) (out : List Env) (s : Shared) (H : Hp), Room k (A.deeper (LamX.lamEnv X sc s.heap.objs.size fl cd)) → PE (LamX.lamCx X A out s H E sc fl cd) bd (t E))
    (hN : Ng[i]? = some a) (hv : Vis sg a) (h1 : (a == ("__debug__" : Str)) = false := by decide) (h2 : (a == ("__classdict__" : Str)) = false := by decide) :
    PE ((gotCx X Ng qg sg g cdg s H).tr pn xe) (.Call (.Name a p1) [] [] p2)
      (fun τ G Q => τ[i]? = some (some (.ref fl)) ∧ G cd = some (LamX.CodeO cd (lamQ X)) ∧ t (WE W τ) σ G Q) := by
  constructor
  intro pz sz τ G Q J ⟨hτ, hG, ht⟩
  have nameRun := (pe_var (X := (gotCx X Ng qg sg g cdg s H).tr pn xe) (pos := p1) (i := i) hN hv h1 h2).run pz sz τ G (fun v G' => v = .ref fl ∧ G' = G) J ⟨.ref fl, hτ, rfl, rfl⟩
  refine wpAny_Call_Name_kw (thn nameRun fun u s1 ⟨v, G', J1, rv, ev, eG⟩ => ?_)
  subst ev eG
  obtain rfl : u = Value.ref fl := rv
  have obj1 := J1.base.keep fl _ ho hn hs (fun z => absurd z (by simp [gotCx, cxOf, Cx.tr]))
  refine PySem.W.callWith_F0 ⟨_, _, _, _, obj1⟩ ?_
  have old : Un (frs X.stack) [] H G' s.heap s1.heap := J1.base
  obtain ⟨⟨oc, vs, tk9, hoc, hdc, hvc⟩, _, _⟩ := J1.hok cd _ hG
  have through : codeAny (model X.prog X.w) (X.A.deeper (envOfC qg sg s.heap.objs.size g cdg)) (.call (.ref fl) ⟨[], []⟩)
      (CR (L2.CX X.prog X.w) (envOfC qg sg s.heap.objs.size g cdg :: X.stack) X.prog X.w G' s1 Q (WE W τ)) s1 := by
    refine PySem.W.kla_callFunE rm.depth obj1 rfl L.co L.gen rfl ⟨cd, oc, vs, tk9, rfl, hoc, hdc, hvc⟩ ?_
    rw [hb]
    refine wpAny_pure (wpAny_newFunctionEnv (fun y m => (L.own y m).2) (fun y m => absurd m (by simp)) (fun hp ns sb => ⟨J1.nolimit.fresh _ sb, ?_⟩) L.kind)
    show codeAny _ _ (.expr bd (LamX.lamEnv X sc s1.heap.objs.size fl cd)) _ _
    have still : ∀ b o, s1.heap.get? b = some o → hp.get? b = some o := fun b o e => sb.extBut b o (Nat.ne_of_lt (Heap.lt_size e)) (Heap.get?_push_of_some _ e)
    have J2 := LamX.lam_start2 (E := WE W τ) (f := fl) (c' := cd) (tk := s1.toks + ([] : List (Str × Value)).length) I L J1.env0 rm.hd old ns still
    refine PySem.W.kla_codeExpr (wpAny_mono ((hbd (WE W τ) _ _ s1 G' (rm.deeper _)).run [] _ _ G' Q J2 ht) (fun v s' ⟨v', G2, J3, rv, qv⟩ => ⟨v', G2, J3.os, J3.bare, J3.base, J3.hok, rv, qv⟩) fun e s' hq => hq)
  have pass := passAt tk τ
  refine wpAny_call (codeAny_mono through fun r s' hq => ?_)
  match r, hq with
  | .error e, hq => exact pass pz G' s1 e s' J1 hq
  | .ok (.ret u), hq => exact J1.after hq
  | .ok .next, hq => exact hq.elim
  | .ok .brk, hq => exact hq.elim
  | .ok .cont, hq => exact hq.elim
/-- the def that calls what it got; TT: what it makes of the lambda's reading -/
def GivesS (X : Cx) (Ng : List Str) (x : Str) (sg : Scope) (g : Addr) (cdg : Value) (bg : List Stmt) (a : Str) (TT : (XK → Hp → VK → Prop) → Hp → VK → Prop) : Prop :=
  ∀ (fl cd : Addr) (s : Shared) (H : Hp) (Q : VK) (tl : XK → Hp → VK → Prop),
    (∀ (W : WX) (pn : List (Addr × Obj)) (xe : Value → Shared → Prop) (p1 p2 : Pos), Takes ((gotCx X Ng x sg g cdg s H).tr pn xe) W →
      PE ((gotCx X Ng x sg g cdg s H).tr pn xe) (.Call (.Name a p1) [] [] p2) (fun τ G Q => τ[0]? = some (some (.ref fl)) ∧ G cd = some (LamX.CodeO cd (lamQ X)) ∧ tl (WE W τ) G Q)) →
    H cd = some (LamX.CodeO cd (lamQ X)) → TT tl H Q →
    ∃ t, PSs (gotCx X Ng x sg g cdg s H).nox bg t ∧ t { nx := fun _ H' => Q .non H', rt := Q } (L2.start Ng [.ref fl]) H
/-- a def of the text that is handed a lambda -/
structure GotFn (K : PySem.W.Frag) (mg : Str → Option Value) (x a : Str) (st : Stmt) (Ng : List Str) (g : Addr) (cdg : Value) : Prop where
  gm : mg x = some (.ref g)
  kp : PySem.W.keepIn K (.ref g) = true
  fn : ∃ (oc : Value) (od : Option Addr) (dV kV doc pm ct : Value) (an : Option Addr) (osl : Array (Option Value)),
    K.lookup g = some ⟨oc, od, .func (PySem.W.fnOf x x (defArgs st) (defBody st) (defScope st) dV kV doc pm an cdg ct), osl⟩ ∧ L2.Binds K (PySem.W.fnOf x x (defArgs st) (defBody st) (defScope st) dV kV doc pm an cdg ct) [a] []
  cd : PySem.W.codeIn K cdg x = true
  sc : FnScope Ng [a] (defScope st)
  n0 : Ng[0]? = some a
  vs : Vis (defScope st) a
theorem pe_lamS {T : List (Addr × Str)} {TT : (XK → Hp → VK → Prop) → Hp → VK → Prop} {x a : Str} {g c P : Addr} {k j : Nat} {st : Stmt} {cdg : Value} {Ng : List Str} {pr : Arguments} {bd : Expr} {sc : Scope} {t : XK → TE} {p lp pos : Pos}
    (G : GotFn X.K X.mg x a st Ng g cdg) (hG : GivesS X Ng x (defScope st) g cdg (defBody st) a TT) (TB : LamX.TabB X.base X.mg c P) (rm : Room j X.A)
    (hbd : ∀ (E : XK) (A : Around) (out : List Env) (s : Shared) (H : Hp) (fl cd : Addr), Room k (A.deeper (LamX.lamEnv X sc s.heap.objs.size fl cd)) → PE (LamX.lamCx X A out s H E sc fl cd) bd (t E))
    (hc : X.env.code = .ref c := by rfl) (hm : (P, lamQ X) ∈ T := by exact List.mem_cons_self) (hu : ∀ p ∈ T, p.1 = P → p.2 = lamQ X := by (intro p hp _; cases List.mem_singleton.mp hp; rfl)) (L : LamX.LamS X.env.scope sc := by exact LamX.lamS_by (by decide +kernel)) (hd : defaultsOf pr X.env = ([], []) := by rfl)
    (hb : ∀ (q : Str) (cl : List (Str × Addr)) (nm cv ctx : Value), bindArgs (PySem.W.kla_fn "<lambda>" q pr bd sc cl nm cv ctx) ⟨[], []⟩ = pure [] := by intros; rfl)
    (hle : k + 2 ≤ j := by decide) (hg : Gl X x := by rfl) (h0 : (x == ("__debug__" : Str)) = false := by decide) (h1 : (a == ("__debug__" : Str)) = false := by decide) (h2 : (a == ("__classdict__" : Str)) = false := by decide) :
    PE X (.Call (.Name x p) [.Lambda pr bd sc lp] [] pos) (LamX.tLam T TT t) := by
  constructor
  intro pins s σ H Q I ⟨hT, h⟩
  obtain ⟨oc, od, dV, kV, doc, pm, ct, an, osl, lk, bnd⟩ := G.fn
  refine wpAny_Call_Name_kw (ld_glob I hg G.gm ?_ h0)
  refine PySem.W.callWith_K (h₀ := X.base) I.ok.mod.kin G.kp ?_ (by rfl) (by rfl)
  show wpAny _ _ (spliced ((false, eval (.Lambda pr bd sc lp) X.env) :: backTo pos (starEach [] X.env))) _ _ s
  refine Calls.spliced_cons (LamX.lam_make2 I TB hc hm hu hT hd (L.has I.ok) fun fl cd nm ctx H1 s1 I1 en T1 ho hn hs hco => Calls.spliced_nil ⟨I1.kIn, ?_⟩)
  have through : codeAny (model X.prog X.w) X.A (.call (.ref g) ⟨[.ref fl], []⟩) (CR C8.CX0 X.stack X.prog X.w H1 s1 Q C8.E0) s1 := by
    refine LamX.run_ofS (k := k + 1) (us := [.ref fl]) (vs := [.ref fl]) lk G.cd G.sc (rm.mono hle) I1.env0 (bnd s1 [.ref fl] I1.kIn rfl) (.cons rfl .nil) rfl fun rm' => ?_
    obtain ⟨t', ps', q'⟩ := hG fl cd s1 H1 Q (fun E G' Q' => t E σ G' Q') (fun W pn xe p1 p2 tk => pe_actS (i := 0) I1 L ho hn hs (hb _ _ _ _ _) tk rm' (fun E A out s H r => hbd E A out s H fl cd r) G.n0 G.vs h1 h2) hco (h H1 en T1)
    exact ⟨t', ps'.nox, q'⟩
  refine wpAny_call (codeAny_mono through fun r s2 hq => ?_)
  match r, hq with
  | .error e, hq => exact (show False from hq).elim
  | .ok (.ret u), hq => exact I1.after hq
  | .ok .next, hq => exact hq.elim
  | .ok .brk, hq => exact hq.elim
  | .ok .cont, hq => exact hq.elim
end

/-- a def of the text with its code object -/
structure FunC (K : PySem.W.Frag) (x : Str) (st : Stmt) (f : Addr) (fd : FuncData) (c : Addr) : Prop where
  ex : ∃ (oc : Value) (od : Option Addr) (kV doc pm : Value) (an : Option Addr) (ct : Value) (osl : Array (Option Value)),
    fd = PySem.W.fnOf x x (defArgs st) (defBody st) (defScope st) .none kV doc pm an (.ref c) ct ∧ K.lookup f = some ⟨oc, od, .func fd, osl⟩ ∧ PySem.W.codeIn K (.ref c) x = true
theorem FunC.ok {P : Program} {w : World} {K : PySem.W.Frag} {mg : Str → Option Value} {base : Heap} {x : Str} {st : Stmt} {f c : Addr} {fd : FuncData} {N ps : List Str} {k : Nat} {sp : Sp} (F : FunC K x st f fd c) (S : FnScope N ps (defScope st)) (len : ∀ vs H Q E, sp vs H Q E → vs.length = ps.length)
    (hb : ∀ (A : Around) (out : List Env) (s : Shared) (H : Hp) (vs : List V) (Q : VK) (E : XK), Room k (A.deeper (envOfC x (defScope st) s.heap.objs.size f (.ref c))) → sp vs H Q E →
      ∃ t, PSs (cxOf CX0 P w K mg base N x (defScope st) f (.ref c) A out s H E).nox (defBody st) t ∧ t { nx := fun _ H' => Q .non H', rt := Q } (start N vs) H) : FnOk P w K mg base CX0 (k + 1) f fd ps sp := by
  obtain ⟨oc, od, kV, doc, pm, an, ct, osl, rfl, lk, hcd⟩ := F.ex
  exact fn_of lk hcd S len fun A out s H vs Q E hr hsp => let ⟨t, h, q⟩ := hb A out s H vs Q E hr hsp; ⟨t, h.nox, q⟩
theorem got_of {K : PySem.W.Frag} {mg : Str → Option Value} {x a : Str} {st : Stmt} {Ng : List Str} {g : Addr} {fd : FuncData} (F : Fun K x x st g fd) (gm : mg x = some (.ref g)) (b : Binds K fd [a] []) (sc : FnScope Ng [a] (defScope st)) (n0 : Ng[0]? = some a) (vs : Vis (defScope st) a) : ∃ cdg, GotFn K mg x a st Ng g cdg := by
  obtain ⟨oc, od, kV, doc, pm, an, cdv, ct, osl, rfl, lk, hcd⟩ := F.ex
  exact ⟨cdv, gm, F.kp, ⟨_, _, _, _, _, _, _, _, _, lk, b⟩, hcd, sc, n0, vs⟩
/-! ### calls within a lambda that may raise -/
section
variable {X : Cx} {k j : Nat} {C : Addr} {m x : Str} {ps ks : List Str} {dvs : List V} {sp : Sp} {o e : Expr} {es : List Expr} {ta : TE} {t tk : TA} {apos p pos : Pos} {gV : List V → List V → List V} {kws : List Keyword} {E : XK}
def CalCX (P : Program) (w : World) (K : PySem.W.Frag) (mg : Str → Option Value) (base : Heap) (k : Nat) (x : Str) (C : Addr) (ps : List Str) (dvs : List V) (sp : Sp) : Prop :=
  ∃ (f : Addr) (fd : FuncData) (ds : List Value), Mk K C f ∧ mg x = some (.ref C) ∧ Vals dvs ds ∧ Binds K fd ps ds ∧ FnOk P w K mg base (L2.CX P w) k f fd ps sp
theorem pe_calcX (h : CalCX X.prog X.w X.K X.mg X.base k x C ps dvs sp) (hr : Room j X.A) (tk : Takes X (fun cls d _ H => E cls d H)) (ha : PA X (e :: es) t) (hle : k + 1 ≤ j := by decide) (hg : Gl X x := by rfl)
    (hdb : (x == ("__debug__" : Str)) = false := by decide) (he : starEach (e :: es) X.env = (false, eval e X.env) :: starEach es X.env := by rfl) (hpl : (backTo pos (starEach es X.env)).any (·.1) = false := by rfl) :
    PE X (.Call (.Name x p) (e :: es) [] pos) (tMake C sp dvs E t) := by
  obtain ⟨f, fd, ds, h1, h2, h3, h4, h5⟩ := h
  exact pe_make h1 h5 (hr.mono hle) hg h2 h4 h3 (passes_call tk (fun _ _ _ _ h => h)) ha hdb he hpl
/-- the error passes on out of the lambda -/
theorem takesLam {X : Cx} {A : Around} {outer : List Env} {s : Shared} {H : Hp} {E : XK} {scope : Scope} {f c' : Addr} : Takes (LamX.lamCx X A outer s H E scope f c') (fun cls d _ H => E cls d H) := takes_of rfl rfl rfl rfl
end
/-! ### calls within a lambda that may raise -/
section
variable {X : Cx} {k j n : Nat} {x : Str} {ps ks : List Str} {dvs : List V} {sp : Sp} {e : Expr} {es : List Expr} {t tk : TA} {p pos : Pos} {gV : List V → List V → List V} {kws : List Keyword} {E : XK}
theorem pe_calxL (c : CalX X.prog X.w X.K X.mg X.base k x ps dvs sp) (hr : Room j X.A) (tk : Takes X (fun cls d _ H => E cls d H)) (ha : PA X (e :: es) t) (hle : k ≤ j := by decide) (hg : Gl X x := by rfl) (hdb : (x == ("__debug__" : Str)) = false := by decide)
    (he : starEach (e :: es) X.env = (false, eval e X.env) :: starEach es X.env := by rfl) (hpl : (backTo pos (starEach es X.env)).any (·.1) = false := by rfl) : PE X (.Call (.Name x p) (e :: es) [] pos) (tCall sp dvs E t) := by
  rcases c with ⟨f, fd, ds, at_, kept, dv, bd, ok⟩
  exact pe_call ok (hr.mono hle) hg at_ kept bd dv (passes_call tk fun _ _ _ _ z => z) ha hdb he hpl
theorem pe_calxLk (c : CalXK X.prog X.w X.K X.mg X.base k x ps n ks gV sp) (hr : Room j X.A) (tk' : Takes X (fun cls d _ H => E cls d H)) (ha : PA X (e :: es) t) (hkw : PK X kws tk) (hle : k ≤ j := by decide) (hg : Gl X x := by rfl)
    (hall : (backToKw pos (keywordEach kws X.env)).all (·.1.isSome) = true := by rfl) (hks : (backToKw pos (keywordEach kws X.env)).filterMap (·.1) = ks := by rfl) (hdb : (x == ("__debug__" : Str)) = false := by decide)
    (he : starEach (e :: es) X.env = (false, eval e X.env) :: starEach es X.env := by rfl) (hpl : ((backTo pos (starEach (e :: es) X.env)).any (·.1) || (backToKw pos (keywordEach kws X.env)).any (·.1.isNone)) = false := by rfl) :
    PE X (.Call (.Name x p) (e :: es) kws pos) (tCallN n ks.length sp gV E t tk) := by
  rcases c with ⟨f, fd, g, at_, kept, bd, ok⟩
  exact pe_callN ok (hr.mono hle) hg at_ kept bd (passes_call tk' fun _ _ _ _ z => z) ha hkw hall hks hdb he hpl
theorem pe_calxL0 (c : CalXK X.prog X.w X.K X.mg X.base k x ps 0 ks gV sp) (hr : Room j X.A) (tk' : Takes X (fun cls d _ H => E cls d H)) (hkw : PK X kws tk) (hle : k ≤ j := by decide) (hg : Gl X x := by rfl)
    (hall : (backToKw pos (keywordEach kws X.env)).all (·.1.isSome) = true := by rfl) (hks : (backToKw pos (keywordEach kws X.env)).filterMap (·.1) = ks := by rfl) (hdb : (x == ("__debug__" : Str)) = false := by decide)
    (hpl : ((backTo pos (starEach [] X.env)).any (·.1) || (backToKw pos (keywordEach kws X.env)).any (·.1.isNone)) = false := by rfl) :
    PE X (.Call (.Name x p) [] kws pos) (tCallN 0 ks.length sp gV E tNil tk) := by
  rcases c with ⟨f, fd, g, at_, kept, bd, ok⟩
  constructor
  intro pins s σ H Q I h
  refine wpAny_Call_Name_kw (ld_glob I hg at_ (PySem.W.callWith_KW0 (h₀ := X.base) I.ok.mod.kin kept hall (thn (hkw.run pos pins s σ H _ I h) ?_) hpl) hdb)
  rintro ws s2 ⟨zs, H2, I2, rz, l1, l2, q2⟩
  refine ⟨I2.kIn, ?_⟩
  rw [hks]
  exact run_fnN (vs := []) (us := []) ok (hr.mono hle) bd (passes_call tk' fun _ _ _ _ z => z) I2 .nil rz l1 l2 q2
end

section
variable {X : Cx} {k j : Nat} {C : Addr} {m : Str} {ps ks : List Str} {sp : Sp} {o e : Expr} {es : List Expr} {ta : TE} {t tk : TA} {apos pos : Pos} {gV : List V → List V → List V} {kws : List Keyword} {E : XK}
/-- a method's call within a lambda -/
theorem pe_calmxL {pl : Sem Bool} (he : PE X o ta) (c : Cls X.K C) (h : CalMX X.prog X.w X.K X.mg X.base k C m ps sp) (hr : Room j X.A) (tw : Takes X (fun cls d _ H => E cls d H)) (ha : PA X (e :: es) t) (hle : k ≤ j := by decide)
    (hst : starEach (e :: es) X.env = (false, eval e X.env) :: starEach es X.env := by rfl) (hpl : (backTo pos (starEach es X.env)).any (·.1) = false := by rfl)
    (ht : eval (.Call (.Attribute o m apos) (e :: es) [] pos) X.env = (do
      let ov ← eval o X.env
      standAt apos.atName
      let (f, first) ← holding [ov] (getMethod ov m pl)
      callWith pos f first (backTo pos (starEach (e :: es) X.env)) (backToKw pos (keywordEach [] X.env))) := by rfl) :
    PE X (.Call (.Attribute o m apos) (e :: es) [] pos) (tMeth C m sp [] E ta t) := by
  rcases h with ⟨f, fd, mt, bd, ok⟩
  exact pe_meth he c mt ok (hr.mono hle) bd .nil (passes_call tw fun _ _ _ _ z => z) ha hst hpl ht
def tMethKE (C : Addr) (m : Str) (n : Nat) (sp : Sp) (gV : List V → List V → List V) (E : XK) (ta : TE) (tk : TA) : TE := fun σ H Q => ta σ H fun x H1 => ∃ a dx fs, x = .ref a ∧ H1 a = some (.ins C dx fs) ∧ fs.lookup m = none ∧ tk σ H1 fun zs H2 => zs.length = n ∧ sp (gV [x] zs) H2 Q E
theorem pe_calmkxL {pl : Sem Bool} (he : PE X o ta) (c : Cls X.K C) (h : CalMXK X.prog X.w X.K X.mg X.base k C m ps ks gV sp) (hr : Room j X.A) (tw : Takes X (fun cls d _ H => E cls d H)) (hkw : PK X kws tk) (hle : k ≤ j := by decide)
    (hall : (backToKw pos (keywordEach kws X.env)).all (·.1.isSome) = true := by rfl) (hks : (backToKw pos (keywordEach kws X.env)).filterMap (·.1) = ks := by rfl)
    (hpl : ((backTo pos (starEach [] X.env)).any (·.1) || (backToKw pos (keywordEach kws X.env)).any (·.1.isNone)) = false := by rfl)
    (ht : eval (.Call (.Attribute o m apos) [] kws pos) X.env = (do
      let ov ← eval o X.env
      standAt apos.atName
      let (f, first) ← holding [ov] (getMethod ov m pl)
      callWith pos f first (backTo pos (starEach [] X.env)) (backToKw pos (keywordEach kws X.env))) := by rfl) :
    PE X (.Call (.Attribute o m apos) [] kws pos) (tMethKE C m ks.length sp gV E ta tk) := by
  rcases h with ⟨f, fd, gg, mt, bd, ok⟩
  constructor
  intro pins s σ H Q I h
  refine PySem.W.methodCall_KW (pl := pl) (thn (he.run pins s σ H _ I h) ?_) ht
  rintro u s1 ⟨x, H1, I1, rx, a, dx, fs, rfl, ea, l, q⟩
  obtain rfl : u = Value.ref a := rx
  refine getmeth_ok I1 ea c mt l (PySem.W.callWith_KW0 (first := [.ref a]) (h₀ := X.base) I.ok.mod.kin mt.kp hall (thn (hkw.run pos pins s1 σ H1 _ I1 q) ?_) hpl)
  rintro ws s2 ⟨zs, H2, I2, rz, l2, q2⟩
  refine ⟨I2.kIn, ?_⟩
  rw [hks]
  exact run_fnN (vs := [.ref a]) (us := [.ref a]) ok (hr.mono hle) bd (passes_call tw fun _ _ _ _ z => z) I2 (.cons rfl .nil) rz rfl l2 q2
end
/-! ### heaps without tables -/
def NoT (B : Hp) : Prop := ∀ b ps, B b ≠ some (.tbl ps)
def noT (H : Hp) : Hp := fun b => match H b with
  | some (.tbl _) => none
  | o => o
theorem noT_no (H : Hp) : NoT (noT H) := fun b ps e => by
  unfold noT at e
  split at e
  · cases e
  · rename_i h
    exact h _ e
theorem noT_at {H : Hp} {b : Addr} {o : HO} (e : H b = some o) (n : ∀ ps, o ≠ .tbl ps) : noT H b = some o := by
  unfold noT
  rw [e]
  cases o with
  | tbl ps => exact absurd rfl (n ps)
  | _ => rfl
theorem noT_ext (H : Hp) : LamX.ExtN H (noT H) := fun b o e n => noT_at e n
theorem noT_same (H : Hp) : Same (noT H) H := fun b o e => by
  unfold noT at e
  split at e
  · cases e
  · exact e
theorem NoT.ext {B H H' : Hp} (nb : NoT B) (s : Same B H) (e : LamX.ExtN H H') : Same B H' := fun b o h => e b o (s b o h) fun ps z => nb b ps (by rw [h, z])
theorem NoT.no {B H : Hp} (nb : NoT B) (s : Same B H) : Same B (noT H) := fun b o h => noT_at (s b o h) fun ps z => nb b ps (by rw [h, z])
theorem noT_none {H : Hp} {b : Addr} (e : H b = none) : noT H b = none := by
  unfold noT
  rw [e]
theorem FsAt.ext {C : Addr} {H H' : Hp} {vs : List V} {fs : List FormP} (h : FsAt C H vs fs) (s : LamX.ExtN H H') : FsAt C H' vs fs := by
  induction h with
  | nil => exact .nil
  | cons e _ ih =>
    obtain ⟨⟨dx, ho⟩, h1, h2, h3⟩ := e
    exact .cons ⟨⟨dx, s _ _ ho (fun _ z => nomatch z)⟩, h1, h2, h3⟩ ih
theorem TsAt.ext {H H' : Hp} {vs : List V} {xss : List (List V)} (h : TsAt H vs xss) (s : LamX.ExtN H H') : TsAt H' vs xss := h.mono fun p xs e => s _ _ e (fun _ z => nomatch z)
theorem TL7.ext {H H' : Hp} {a : Addr} {xss : List (List V)} (h : TL7 H a xss) (s : LamX.ExtN H H') : TL7 H' a xss := by
  obtain ⟨vs, e, t⟩ := h
  exact ⟨vs, s _ _ e (fun _ z => nomatch z), t.ext s⟩
theorem NetAt.ext {C CN : Addr} {H H' : Hp} {p : Addr} {n : NetP} (h : NetAt C CN H p n) (s : LamX.ExtN H H') : NetAt C CN H' p n := by
  obtain ⟨o, dx, fl, rl, hl, pl, fv, rv, hv, b⟩ := h
  exact ⟨o, dx, fl, rl, hl, pl, fv, rv, hv, s _ _ b.ob (fun _ z => nomatch z), s _ _ b.fa (fun _ z => nomatch z), b.fs.ext s, s _ _ b.ra (fun _ z => nomatch z), b.rs.ext s, s _ _ b.ha (fun _ z => nomatch z), b.hs.ext s, s _ _ b.pa (fun _ z => nomatch z)⟩
theorem PartsAt.ext {H H' : Hp} {p : Addr} {n : NetP} (h : PartsAt H p n) (s : LamX.ExtN H H') : PartsAt H' p n := by
  obtain ⟨fa, ra, ha, e, h1, h2, h3⟩ := h
  exact ⟨fa, ra, ha, s _ _ e (fun _ z => nomatch z), h1.ext s, h2.ext s, h3.ext s⟩
theorem PsAt.ext {n : NetP} {A : Addr → Prop} {H H' : Hp} {vs : List V} {ts : List Trn} (h : PsAt n A H vs ts) (s : LamX.ExtN H H') : PsAt n A H' vs ts := by
  induction h with
  | nil => exact .nil
  | snoc _ ht hl ho hs nl no ih => exact .snoc ih (s _ _ ht (fun _ z => nomatch z)) (s _ _ hl (fun _ z => nomatch z)) (s _ _ ho (fun _ z => nomatch z)) (s _ _ hs (fun _ z => nomatch z)) nl no
theorem MachAt.ext {C CN CM : Addr} {A : Addr → Prop} {B H H' : Hp} {m pl : Addr} {n : NetP} {st0 : List Int} {hist : List Trn} (h : MachAt C CN CM A B H m pl n st0 hist) (nb : NoT B) (s : LamX.ExtN H H') : MachAt C CN CM A B H' m pl n st0 hist := by
  obtain ⟨dx, fs, np, pv, b⟩ := h
  exact ⟨dx, fs, np, pv, s _ _ b.ob (fun _ z => nomatch z), b.bm, b.bp, nb.ext b.bs s, b.net, s _ _ b.fs (fun _ z => nomatch z), s _ _ b.pa (fun _ z => nomatch z), b.ps.ext s⟩
theorem BadW.ext {H H' : Hp} {w : Option Int} {x : V} (h : BadW H w x) (s : LamX.ExtN H H') : BadW H' w x := by
  rcases h with h | h | h | h | ⟨p, o, e, h1, h2⟩
  · exact .inl h
  · exact .inr (.inl h)
  · exact .inr (.inr (.inl h))
  · exact .inr (.inr (.inr (.inl h)))
  · exact .inr (.inr (.inr (.inr ⟨p, o, e, s _ _ h1 (fun ps z => by rw [z] at h2; exact h2.elim), h2⟩)))
theorem BadS.ext {H H' : Hp} {n : NetP} {x : V} (h : BadS H n x) (s : LamX.ExtN H H') : BadS H' n x := h.map (fun p o e t => ⟨o, s _ _ e (fun ps z => by rw [z] at t; exact t.elim), t⟩) (fun p xs e => s _ _ e (fun _ z => nomatch z)) (fun w v b => b.ext s)
theorem tabs_but {T : List (Addr × Str)} {a : Addr} {ys : List V} {H H' : Hp} (h : LamX.Tabs T H) (s : SameBut a H H') (ha : H a = some (.lst ys)) : LamX.Tabs T H' := fun p hp => by
  obtain ⟨ps, e, t, c⟩ := h p hp
  refine ⟨ps, s _ _ (fun z => by rw [z, ha] at e; cases e) e, t, fun pos cv e2 => ?_⟩
  obtain ⟨cc, e3, e4⟩ := c pos cv e2
  exact ⟨cc, e3, s _ _ (fun z => by rw [z, ha] at e4; cases e4) e4⟩
/-! ### the def that tells a refusal -/
structure Errs30 (K : PySem.W.Frag) (mg : Str → Option Value) (CE CB CU CN CT : Addr) : Prop where
  gE : mg "EchoError" = some (.ref CE)
  gB : mg "BadState" = some (.ref CB)
  gU : mg "Unfit" = some (.ref CU)
  gN : mg "BadNet" = some (.ref CN)
  gT : mg "NoTurn" = some (.ref CT)
  XB : ExcC K CB
  XU : ExcC K CU
  noU : PySem.W.findIn K (.ref CU) "at" = some none
  exB : PySem.W.exmOne K (.ref CB) (.ref CE) = some true
  exU : PySem.W.exmOne K (.ref CU) (.ref CE) = some true
  bB : PySem.W.kitOne K (.ref CB) (.ref CB) = some true
  bU : PySem.W.kitOne K (.ref CB) (.ref CU) = some false
  bN : PySem.W.kitOne K (.ref CB) (.ref CN) = some false
  bT : PySem.W.kitOne K (.ref CB) (.ref CT) = some false
  uB : PySem.W.kitOne K (.ref CU) (.ref CB) = some false
  uU : PySem.W.kitOne K (.ref CU) (.ref CU) = some true
  uN : PySem.W.kitOne K (.ref CU) (.ref CN) = some false
  uT : PySem.W.kitOne K (.ref CU) (.ref CT) = some false
def TTsaid (CU CB : Addr) : (XK → Hp → VK → Prop) → Hp → VK → Prop := fun tl H Q => ∀ (E : XK) (Q' : VK),
  (∀ H', (∀ t H'', Same H' H'' → H'' t = some (.tup [.str "state", .int 0]) → Q (.ref t) H'') → E (.ref CB) none H') →
  (∀ (dd : Addr) (k : Int) (H' : Hp), H' dd = some (.xd [("at", .int k)]) → (∀ t H'', Same H' H'' → H'' t = some (.tup [.str "word", .int k]) → Q (.ref t) H'') → E (.ref CU) (some dd) H') → tl E H Q'
theorem sc__law_said : FnScope ["_law_deed", "_law_found", "e", "_law_marks"] ["_law_deed"] (defScope s__law_said) := ⟨rfl, rfl, rfl, by decide +kernel, rfl, by decide +kernel, by decide +kernel⟩
theorem said_gives {X : Cx} {CE CB CU CN CT : Addr} (XX : Errs30 X.K X.mg CE CB CU CN CT) (EC : PySem.ErrX.ErrC X.K X.mg "Unfit" CU) (zi : X.mg "isinstance" = none) {k : Nat} (hr0 : Room (k + 1) X.A) {g : Addr} {cdg : Value} :
    GivesS X ["_law_deed", "_law_found", "e", "_law_marks"] "_law_said" (defScope s__law_said) g cdg (defBody s__law_said) "_law_deed" (TTsaid CU CB) := by
  intro fl cd s H Q tl act hc h
  have hr : ∀ env, Room k (X.A.deeper env) := fun env => hr0.deeper env
  refine ⟨_, pss_cons (ps_set (i := 1) sc__law_said.nd rfl (.inl rfl) pe_non)
    (pss_cons (ps_try_as (X := (gotCx X ["_law_deed", "_law_found", "e", "_law_marks"] "_law_said" (defScope s__law_said) g cdg s H).nox) (i := 2) (c := .ref CE) (tb := fun W D σ H => σ[0]? = some (some (.ref fl)) ∧ H cd = some (LamX.CodeO cd (lamQ X)) ∧ tl (WE W σ) H (fun _ H' => D.nx σ H')) (ts := fun a cls d => tSeq (tAsg (tLst (tCons (tCB (rIsX X.K a cls d) (tCons (tVar 2) (tCons (tC (.ref CB)) tNil))) (tCons (tCB (rIsX X.K a cls d) (tCons (tVar 2) (tCons (tC (.ref CU)) tNil))) (tCons (tCB (rIsX X.K a cls d) (tCons (tVar 2) (tCons (tC (.ref CN)) tNil))) (tCons (tCB (rIsX X.K a cls d) (tCons (tVar 2) (tCons (tC (.ref CT)) tNil))) tNil))))) (gName 3)) (tSeq (tIfS (tTest (tOp (rEqD X.K) (tVar 3) (tLst (tCons (tC (.bl true)) (tCons (tC (.bl false)) (tCons (tC (.bl false)) (tCons (tC (.bl false)) tNil))))))) (tAsg (tTup (tCons (tC (.str "state")) (tCons (tC (.int 0)) tNil))) (gName 1)) tNext) (tIfS (tTest (tOp (rEqD X.K) (tVar 3) (tLst (tCons (tC (.bl false)) (tCons (tC (.bl true)) (tCons (tC (.bl false)) (tCons (tC (.bl false)) tNil))))))) (tAsg (tTup (tCons (tC (.str "word")) (tCons (tXf a cls d CU "at" (tVar 2)) tNil))) (gName 1)) tNext))) rfl rfl sc__law_said.nd rfl rfl ⟨rfl, by decide, .inl XX.gE⟩ takes0 (fun W pn xe tk _ => pss_one (ps_expr (act W pn xe _ _ tk)))
      (fun a oe cls d pn hz hf => (pss_cons (ps_set (i := 3) sc__law_said.nd rfl (.inl rfl) (pe_lst (pa_cons (pe_callB (call_isX hz hf) (by rfl) zi (by decide +kernel) (pa_cons (pv 2) (pa_cons (pe_glob (v := .ref CB) (by rfl) XX.gB rfl) pa_nil))) (pa_cons (pe_callB (call_isX hz hf) (by rfl) zi (by decide +kernel) (pa_cons (pv 2) (pa_cons (pe_glob (v := .ref CU) (by rfl) XX.gU rfl) pa_nil))) (pa_cons (pe_callB (call_isX hz hf) (by rfl) zi (by decide +kernel) (pa_cons (pv 2) (pa_cons (pe_glob (v := .ref CN) (by rfl) XX.gN rfl) pa_nil))) (pa_cons (pe_callB (call_isX hz hf) (by rfl) zi (by decide +kernel) (pa_cons (pv 2) (pa_cons (pe_glob (v := .ref CT) (by rfl) XX.gT rfl) pa_nil))) pa_nil))))))
      (pss_cons (ps_if (pt_cmpR (op_eqD (by exact (hr (envOfC "_law_said" (defScope s__law_said) s.heap.objs.size g cdg)).units)) (pv 3) (pe_lst (pa_cons pe_bl (pa_cons pe_bl (pa_cons pe_bl (pa_cons pe_bl pa_nil))))) (nomark _)) (pss_one (ps_set (i := 1) sc__law_said.nd rfl (.inl rfl) (pe_tup (pa_cons pe_str (pa_cons pe_int pa_nil))))) pss_nil)
      (pss_one (ps_if (pt_cmpR (op_eqD (by exact (hr (envOfC "_law_said" (defScope s__law_said) s.heap.objs.size g cdg)).units)) (pv 3) (pe_lst (pa_cons pe_bl (pa_cons pe_bl (pa_cons pe_bl (pa_cons pe_bl pa_nil))))) (nomark _)) (pss_one (ps_set (i := 1) sc__law_said.nd rfl (.inl rfl) (pe_tup (pa_cons pe_str (pa_cons (by exact (pe_xf (E1.ErrC.xf EC) XX.noU hz hf (pv 2))) pa_nil))))) pss_nil))))))
      (pss_one (ps_ret (pv 1)))), ?_⟩
  refine ⟨rfl, hc, ?_⟩
  refine h _ _ (fun H1 q => ⟨true, XX.exB, fun _ a ha => ?_, fun z => nomatch z⟩) (fun d k H1 hd q => ⟨true, XX.exU, fun _ a ha => ?_, fun z => nomatch z⟩)
  · refine ⟨_, rfl, CB, _, _, true, rfl, XX.XB, rfl, (fun u h => h), (fun dd e => nomatch e), XX.bB, _, rfl, CB, _, _, false, rfl, XX.XB, rfl, (fun u h => h), (fun dd e => nomatch e), XX.bU, _, rfl, CB, _, _, false, rfl, XX.XB, rfl, (fun u h => h), (fun dd e => nomatch e), XX.bN, _, rfl, CB, _, _, false, rfl, XX.XB, rfl, (fun u h => h), (fun dd e => nomatch e), XX.bT, (by show 4 ≤ sizeLine; decide), fun l2 hl2 => ?_⟩
    have s2 := same_new (o := .lst [.bl true, .bl false, .bl false, .bl false]) hl2
    refine ⟨_, rfl, (by show 4 ≤ sizeLine; decide), fun l3 hl3 => ?_⟩
    have s3 := same_new (o := .lst [.bl true, .bl false, .bl false, .bl false]) hl3
    refine ⟨.list [.bool true, .bool false, .bool false, .bool false], .list [.bool true, .bool false, .bool false, .bool false], .lst (SqL.of (s3 _ _ upd_same)) (.cons (.bl _) (.cons (.bl _) (.cons (.bl _) (.cons (.bl _) .nil)))), .lst (SqL.of upd_same) (.cons (.bl _) (.cons (.bl _) (.cons (.bl _) (.cons (.bl _) .nil)))), (by decide +kernel), (by decide +kernel), _, rfl, ?_⟩
    refine iteC (c := PyData.eqv (.list [.bool true, .bool false, .bool false, .bool false]) (.list [.bool true, .bool false, .bool false, .bool false])) (d := true) (by decide +kernel) (iteT ?_)
    refine ⟨(by show 2 ≤ sizeLine; decide), fun t4 ht4 => ?_⟩
    have s4 := same_new (o := .tup [.str "state", .int 0]) ht4
    refine ⟨_, rfl, (by show 4 ≤ sizeLine; decide), fun l5 hl5 => ?_⟩
    have s5 := same_new (o := .lst [.bl false, .bl true, .bl false, .bl false]) hl5
    refine ⟨.list [.bool true, .bool false, .bool false, .bool false], .list [.bool false, .bool true, .bool false, .bool false], .lst (SqL.of (s5 _ _ (s4 _ _ (s3 _ _ upd_same)))) (.cons (.bl _) (.cons (.bl _) (.cons (.bl _) (.cons (.bl _) .nil)))), .lst (SqL.of upd_same) (.cons (.bl _) (.cons (.bl _) (.cons (.bl _) (.cons (.bl _) .nil)))), (by decide +kernel), (by decide +kernel), _, rfl, ?_⟩
    refine iteC (c := PyData.eqv (.list [.bool true, .bool false, .bool false, .bool false]) (.list [.bool false, .bool true, .bool false, .bool false])) (d := false) (by decide +kernel) (iteF ?_)
    exact ⟨_, rfl, q t4 _ ((s2.trans s3).trans (s4.trans s5)) (s5 _ _ upd_same)⟩
  · refine ⟨_, rfl, CU, _, _, false, rfl, XX.XU, rfl, (fun u h => h), (fun dd e => by cases e; exact ⟨_, hd⟩), XX.uB, _, rfl, CU, _, _, true, rfl, XX.XU, rfl, (fun u h => h), (fun dd e => by cases e; exact ⟨_, hd⟩), XX.uU, _, rfl, CU, _, _, false, rfl, XX.XU, rfl, (fun u h => h), (fun dd e => by cases e; exact ⟨_, hd⟩), XX.uN, _, rfl, CU, _, _, false, rfl, XX.XU, rfl, (fun u h => h), (fun dd e => by cases e; exact ⟨_, hd⟩), XX.uT, (by show 4 ≤ sizeLine; decide), fun l2 hl2 => ?_⟩
    have s2 := same_new (o := .lst [.bl false, .bl true, .bl false, .bl false]) hl2
    refine ⟨_, rfl, (by show 4 ≤ sizeLine; decide), fun l3 hl3 => ?_⟩
    have s3 := same_new (o := .lst [.bl true, .bl false, .bl false, .bl false]) hl3
    refine ⟨.list [.bool false, .bool true, .bool false, .bool false], .list [.bool true, .bool false, .bool false, .bool false], .lst (SqL.of (s3 _ _ upd_same)) (.cons (.bl _) (.cons (.bl _) (.cons (.bl _) (.cons (.bl _) .nil)))), .lst (SqL.of upd_same) (.cons (.bl _) (.cons (.bl _) (.cons (.bl _) (.cons (.bl _) .nil)))), (by decide +kernel), (by decide +kernel), _, rfl, ?_⟩
    refine iteC (c := PyData.eqv (.list [.bool false, .bool true, .bool false, .bool false]) (.list [.bool true, .bool false, .bool false, .bool false])) (d := false) (by decide +kernel) (iteF ?_)
    refine ⟨_, rfl, (by show 4 ≤ sizeLine; decide), fun l5 hl5 => ?_⟩
    have s5 := same_new (o := .lst [.bl false, .bl true, .bl false, .bl false]) hl5
    refine ⟨.list [.bool false, .bool true, .bool false, .bool false], .list [.bool false, .bool true, .bool false, .bool false], .lst (SqL.of (s5 _ _ (s3 _ _ upd_same))) (.cons (.bl _) (.cons (.bl _) (.cons (.bl _) (.cons (.bl _) .nil)))), .lst (SqL.of upd_same) (.cons (.bl _) (.cons (.bl _) (.cons (.bl _) (.cons (.bl _) .nil)))), (by decide +kernel), (by decide +kernel), _, rfl, ?_⟩
    refine iteC (c := PyData.eqv (.list [.bool false, .bool true, .bool false, .bool false]) (.list [.bool false, .bool true, .bool false, .bool false])) (d := true) (by decide +kernel) (iteT ?_)
    refine ⟨_, rfl, rfl, rfl, d, _, _, rfl, s5 _ _ (s3 _ _ (s2 _ _ hd)), rfl, (by show 2 ≤ sizeLine; decide), fun t6 ht6 => ?_⟩
    exact ⟨_, rfl, q t6 _ ((s2.trans s3).trans (s5.trans (same_new ht6))) upd_same⟩
end E1

namespace E1
open PySem PySem.Spec PyProof.Rows L2

abbrev s_Unfit___init__ : Stmt := inClass (topS 6) 0

/-! ### error classes over the small head -/
abbrev IniV : Type := Option (Str × Str × Arguments × FuncBody × Scope × Addr × List Str × Addr)
def iniA (K : PySem.W.Frag) (x : Str) : Addr := He.ma K (He.ga K x) "__init__"
def iniF (K : PySem.W.Frag) (x : Str) : Option FuncData := match K.lookup (iniA K x) with
  | some ⟨_, _, .func fd, _⟩ => some fd
  | _ => none
def iniW (K : PySem.W.Frag) (x : Str) : IniV := (iniF K x).map fun fd => (fd.name, fd.qualname, fd.params, fd.body, fd.scope, fd.globals, fd.closure.map (·.1), fd.builtins)
structure ErrD where
  x : Str
  qual : Str
  params : Arguments
  body : List Stmt
  scope : Scope
  one : Bool
def ErrD.val (d : ErrD) : IniV := some ("__init__", d.qual, d.params, .stmts d.body, d.scope, mainGlobals, ["__class__"], builtinsNs)
/-- one default, or none -/
def iniD (K : PySem.W.Frag) (one : Bool) (v : Value) : Bool := match one, v with
  | false, v => decide (v = .none)
  | true, .ref T => (match K.lookup T with
    | some ⟨_, _, .seq its _, _⟩ => decide (its.size = 1)
    | _ => false)
  | true, _ => false
def iniS (v : Option Value) : Bool := match v with
  | some (.str f _) => decide (f = ("/claim/cut.py" : Str))
  | _ => false
def iniC (K : PySem.W.Frag) (qual : Str) (v : Value) : Bool := match v with
  | .ref c => PySem.W.codeIn K (.ref c) qual && (match K.lookup c with
    | some ⟨_, _, .fields vs, _⟩ => iniS (vs[2]?)
    | _ => false)
  | _ => false
def iniL (K : PySem.W.Frag) (x : Str) (l : List (Str × Addr)) : Bool := match l with
  | [(_, c)] => (match K.lookup c with
    | some ⟨_, _, .cell (some v), _⟩ => decide (v = .ref (He.ga K x))
    | _ => false)
  | _ => false
def ErrD.ok (K : PySem.W.Frag) (d : ErrD) : Bool := match iniF K d.x with
  | some fd => iniD K d.one fd.defaults && (iniC K d.qual fd.code && iniL K d.x fd.closure)
  | none => false
structure IniHas (prog : Program) (K : PySem.W.Frag) (d : ErrD) (cc : Addr) (dV : Value) : Prop where
  fn : ∃ (oc : Value) (od : Option Addr) (kV doc pm : Value) (an : Option Addr) (cda : Addr) (ct : Value) (osl : Array (Option Value)),
    K.lookup (iniA K d.x) = some ⟨oc, od, .func (PySem.W.ksFn "__init__" d.qual d.params d.body d.scope dV kV doc pm an (.ref cda) ct cc), osl⟩ ∧ PySem.W.codeIn K (.ref cda) d.qual = true ∧
    ∃ (ccl : Value) (cdd : Option Addr) (vs : Array Value) (ccs : Array (Option Value)) (file : Str) (tf : Tok), K.lookup cda = some ⟨ccl, cdd, .fields vs, ccs⟩ ∧ vs[2]? = some (.str file tf) ∧ ((prog.main.file : Str) == file) = true
  cell : ∃ (cl : Value) (cld : Option Addr) (csl : Array (Option Value)), K.lookup cc = some ⟨cl, cld, .cell (some (.ref (He.ga K d.x))), csl⟩
  dfl : iniD K d.one dV = true
theorem iniC_ok {K : PySem.W.Frag} {qual : Str} {v : Value} (h : iniC K qual v = true) : ∃ c, v = .ref c ∧ PySem.W.codeIn K (.ref c) qual = true ∧ ∃ (ccl : Value) (cdd : Option Addr) (vs : Array Value) (ccs : Array (Option Value)) (tf : Tok), K.lookup c = some ⟨ccl, cdd, .fields vs, ccs⟩ ∧ vs[2]? = some (.str "/claim/cut.py" tf) := by
  cases v with
  | ref c =>
    obtain ⟨h1, h2⟩ := He.ba (show (_ && _) = true from h)
    refine ⟨c, rfl, h1, ?_⟩
    cases e : K.lookup c with
    | none =>
      rw [e] at h2
      cases h2
    | some o =>
      rw [e] at h2
      obtain ⟨oc, od, dt, sl⟩ := o
      cases dt with
      | fields vs =>
        replace h2 : iniS (vs[2]?) = true := h2
        cases e2 : vs[2]? with
        | none =>
          rw [e2] at h2
          cases h2
        | some u =>
          rw [e2] at h2
          cases u with
          | str f tf =>
            have e3 : f = ("/claim/cut.py" : Str) := of_decide_eq_true h2
            subst e3
            exact ⟨_, _, _, _, _, rfl, e2⟩
          | _ => cases h2
      | _ => cases h2
  | _ => cases h
theorem iniL_ok {K : PySem.W.Frag} {x : Str} {l : List (Str × Addr)} (h : iniL K x l = true) (hl : l.map (·.1) = [("__class__" : Str)]) : ∃ c, l = [(("__class__" : Str), c)] ∧ ∃ (cl : Value) (cld : Option Addr) (csl : Array (Option Value)), K.lookup c = some ⟨cl, cld, .cell (some (.ref (He.ga K x))), csl⟩ := by
  match l, hl, h with
  | [(n, c)], hl, h =>
    cases hl
    refine ⟨c, rfl, ?_⟩
    replace h : (match K.lookup c with
      | some ⟨_, _, .cell (some v), _⟩ => decide (v = .ref (He.ga K x))
      | _ => false) = true := h
    cases e : K.lookup c with
    | none =>
      rw [e] at h
      cases h
    | some o =>
      rw [e] at h
      obtain ⟨oc, od, dt, sl⟩ := o
      cases dt with
      | cell v =>
        cases v with
        | none => cases h
        | some v =>
          have e3 : v = .ref (He.ga K x) := of_decide_eq_true h
          subst e3
          exact ⟨_, _, _, rfl⟩
      | _ => cases h
theorem errD_ok {prog : Program} {K : PySem.W.Frag} {d : ErrD} (hf : (prog.main.file : Str) = "/claim/cut.py") (e : iniW K d.x = d.val) (c : d.ok K = true) : ∃ cc dV, IniHas prog K d cc dV := by
  unfold iniW at e
  unfold ErrD.ok at c
  cases q : iniF K d.x with
  | none =>
    rw [q] at c
    cases c
  | some fd =>
    rw [q] at c e
    obtain ⟨c1, c2⟩ := He.ba c
    obtain ⟨c3, c4⟩ := He.ba c2
    have lk : ∃ oc od sl, K.lookup (iniA K d.x) = some ⟨oc, od, .func fd, sl⟩ := by
      unfold iniF at q
      cases e1 : K.lookup (iniA K d.x) with
      | none =>
        rw [e1] at q
        cases q
      | some o =>
        rw [e1] at q
        obtain ⟨oc, od, dt, sl⟩ := o
        cases dt with
        | func fd2 =>
          cases q
          exact ⟨_, _, _, rfl⟩
        | _ => cases q
    obtain ⟨n1, n2, n3, n4, n5, n6, n7, n8, n9, n10, n11, n12, n13, n14, n15⟩ := fd
    have e2 : (some (n1, n2, n3, n4, n5, n6, n7.map (·.1), n15) : IniV) = (some (("__init__" : Str), d.qual, d.params, FuncBody.stmts d.body, d.scope, mainGlobals, [("__class__" : Str)], builtinsNs) : IniV) := e
    simp only [Option.some.injEq, Prod.mk.injEq] at e2
    obtain ⟨h1, h2, h3, h4, h5, h6, h7, h8⟩ := e2
    subst h1 h2 h3 h4 h5 h6 h8
    obtain ⟨cda, ec, k1, ccl, cdd, vs, ccs, tf, k2, k3⟩ := iniC_ok c3
    obtain ⟨cc, el, kl⟩ := iniL_ok c4 h7
    replace ec : n13 = .ref cda := ec
    replace el : n7 = [(("__class__" : Str), cc)] := el
    subst ec el
    obtain ⟨oc, od, sl, lk⟩ := lk
    exact ⟨cc, n8, ⟨oc, od, n9, n10, n11, n12, cda, n14, sl, lk, k1, ccl, cdd, vs, ccs, _, tf, k2, k3, by rw [hf]; exact beq_self_eq_true _⟩, kl, c1⟩
theorem iniD_one {K : PySem.W.Frag} {v : Value} (h : iniD K true v = true) : ∃ T, v = .ref T ∧ ∃ (to : Value) (td : Option Addr) (its : Array Value) (tn : Nat) (ts : Array (Option Value)), K.lookup T = some ⟨to, td, .seq its tn, ts⟩ ∧ its.size = 1 := by
  cases v with
  | ref T =>
    refine ⟨T, rfl, ?_⟩
    replace h : (match K.lookup T with
      | some ⟨_, _, .seq its _, _⟩ => decide (its.size = 1)
      | _ => false) = true := h
    cases e : K.lookup T with
    | none =>
      rw [e] at h
      cases h
    | some o =>
      rw [e] at h
      obtain ⟨oc, od, dt, sl⟩ := o
      cases dt with
      | seq its n => exact ⟨_, _, _, _, _, rfl, of_decide_eq_true h⟩
      | _ => cases h
  | _ => cases h
theorem unfit_ini {P : Program} {w : World} {K : PySem.W.Frag} {mg : Str → Option Value} {C fI cc : Addr} {dV : Value} (hd : iniD K true dV = true) (EC : PySem.ErrX.ErrC K mg "Unfit" C) (IC : PySem.ErrX.IniC P K mg C fI cc "Unfit.__init__" "at" s_Unfit___init__ dV) : PySem.ErrX.IniOk P w K mg C fI "at" := by
  obtain ⟨T, rfl, to, td, its, tn, ts, lT, h1⟩ := iniD_one hd
  refine ⟨IC.iC, IC.tC, fun A R s x t0 v MO hx hnx hroom fv hq => ?_⟩
  refine PySem.ErrX.err_init EC IC ⟨by decide +kernel, by decide +kernel, by decide +kernel, by decide +kernel, by decide +kernel⟩ rfl rfl ?_ ?_ rfl rfl MO hx hnx hroom fv ?_ hq
  · intro e he
    simp only [List.mem_cons, List.not_mem_nil, or_false] at he
    rcases he with rfl | rfl
    · exact .c (by decide)
    · exact .f
  · decide
  · intro kV doc pm an cda ct
    obtain ⟨l⟩ := its
    match l, h1 with
    | [i0], _ =>
      have hk : ∃ k, bindArgs (PySem.W.ksFn "__init__" "Unfit.__init__" (defArgs s_Unfit___init__) (defBody s_Unfit___init__) (defScope s_Unfit___init__) (.ref T) kV doc pm an (.ref cda) ct cc) ⟨[.ref x, v], []⟩ = seqItems? (.ref T) >>= k ∧ k (some [i0].toArray) = pure [(Str.ofString "self", .ref x), ("at", v)] := ⟨_, rfl, rfl⟩
      obtain ⟨k, e1, e2⟩ := hk
      refine BindsTo.of_looks fun M => ?_
      rw [e1]
      exact looks_items MO.kin lT rfl (.of_pure e2)
end E1

namespace E1
open PySem PySem.Spec PyProof.Rows L2

theorem Vals.rev : ∀ {xs : List V} {us : List Value}, Vals xs us → Vals xs.reverse us.reverse
  | _, _, .nil => .nil
  | _, _, .cons r t => by
    rw [List.reverse_cons, List.reverse_cons]
    exact Vals.append (Vals.rev t) (.cons r .nil)
section
variable {P : Program} {w : World} {K : PySem.W.Frag} {mg : Str → Option Value} {base : Heap} {x : Str} {st : Stmt} {f : Addr} {fd : FuncData} {ps ks : List Str} {k n : Nat} {sp : Sp}
/-- a def without defaults: its arguments by keywords alone or behind others -/
theorem Fun.kbn {qual : Str} (F : Fun K x qual st f fd) {g : List Value → List Value → List Value} {gV : List V → List V → List V} (hrel : ∀ {vs : List V} {us : List Value} {zs : List V} {ws : List Value}, Vals vs us → Vals zs ws → Vals (gV vs zs) (g us ws))
    (h : ∀ (kV doc pm : Value) (an : Option Addr) (cdv ct : Value) (us ws : List Value), us.length = n → ws.length = ks.length → bindArgs (PySem.W.fnOf x qual (defArgs st) (defBody st) (defScope st) .none kV doc pm an cdv ct) ⟨us, ks.zip ws⟩ = pure (ps.zip (g us ws))) : KBn K fd ps n ks g gV := by
  rcases F.ex with ⟨_, _, v1, v2, v3, v4, v5, v6, _, same, _, _⟩
  subst same
  exact ⟨fun s us ws _ l1 l2 => .of_eq (h v1 v2 v3 v4 v5 v6 us ws l1 l2), hrel⟩
/-- a def with defaults, all arguments given -/
theorem FunD.kbn {qual : Str} {params : Arguments} {body : List Stmt} {scope : Scope} {dvs : List V} {kws : List (Str × V)} (F : FunD K x qual params body scope dvs kws f fd) (hd : dvs ≠ []) {g : List Value → List Value → List Value} {gV : List V → List V → List V} (hrel : ∀ {vs : List V} {us : List Value} {zs : List V} {ws : List Value}, Vals vs us → Vals zs ws → Vals (gV vs zs) (g us ws))
    (h : ∀ (T : Addr) (kV doc pm : Value) (an : Option Addr) (cdv ct : Value) (us ws its : List Value), us.length = n → ws.length = ks.length → its.length = dvs.length → ∃ k, bindArgs (PySem.W.fnOf x qual params body scope (.ref T) kV doc pm an cdv ct) ⟨us, ks.zip ws⟩ = seqItems? (.ref T) >>= k ∧ k (some its.toArray) = pure (ps.zip (g us ws))) : KBn K fd ps n ks g gV := by
  rcases F.ex with ⟨_, _, _, v1, v2, v3, v4, v5, v6, _, same, _, _, bare | given, _⟩
  · exact absurd bare.1 hd
  · rcases given with ⟨_, T, _, its, _, dv, at_, it, rel⟩
    subst same dv
    refine ⟨fun s us ws inn l1 l2 => BindsTo.of_looks fun M => ?_, hrel⟩
    rcases h T v1 v2 v3 v4 v5 v6 us ws its l1 l2 rel.length.symm with ⟨go, b1, b2⟩
    rw [b1]
    exact looks_items inn at_ it (.of_pure b2)
end

theorem fun_of {K : PySem.W.Frag} {x qual : Str} {st : Stmt} {f : Addr} {fd : FuncData} (F : FunD K x qual (defArgs st) (defBody st) (defScope st) [] [] f fd) : Fun K x qual st f fd := by
  obtain ⟨oc, od, dV, kV, doc, pm, an, cdv, ct, osl, e, lk, hcd, hd, _⟩ := F.ex
  rcases hd with ⟨_, rfl⟩ | ⟨n, _⟩
  · exact ⟨⟨oc, od, kV, doc, pm, an, cdv, ct, osl, e, lk, hcd⟩, F.kp⟩
  · exact absurd rfl n
theorem ex_at {l : List Bool} (h : (l.all id) = true) {i : Nat} {b : Bool} (e : l[i]? = some b) : b = true := List.all_eq_true.mp h b (List.mem_of_getElem? e)
theorem val_int {K : PySem.W.Frag} {a : Addr} {kvs : List (Str × He.Dv)} (h : He.valsB K a kvs = true) {i : Nat} {k : Str} {v : Int} (e : kvs[i]? = some (k, .int v)) : ∃ t, PySem.W.nsIn K a k = some (some (.int v t)) := by
  obtain ⟨u, e1, r⟩ := He.valsB_ok h (List.mem_of_getElem? e)
  obtain ⟨t, rfl⟩ := r
  exact ⟨t, e1⟩
theorem funC_of {K : PySem.W.Frag} {x : Str} {st : Stmt} {p : He.Defn} {fd : FuncData} (F : FunD K x x (defArgs st) (defBody st) (defScope st) [] [] (He.fAd K p) fd) : FunC K x st (He.fAd K p) fd (He.cT K p).1 := by
  obtain ⟨oc, od, dV, kV, doc, pm, an, cdv, ct, osl, e, lk, hcd, hd, _⟩ := F.ex
  obtain ⟨c, rfl⟩ := He.codeIn_ref hcd
  rcases hd with ⟨_, rfl⟩ | ⟨n, _⟩
  · have e2 : (He.cT K p).1 = c := He.codeOf_eq lk (by rw [e])
    rw [e2]
    exact ⟨oc, od, kV, doc, pm, an, ct, osl, e, lk, hcd⟩
  · exact absurd rfl n
theorem fun_ofC {K : PySem.W.Frag} {x : Str} {st : Stmt} {f c : Addr} {fd : FuncData} (F : FunC K x st f fd c) (k : PySem.W.keepIn K (.ref f) = true) : Fun K x x st f fd := by
  obtain ⟨oc, od, kV, doc, pm, an, ct, osl, e, lk, hcd⟩ := F.ex
  exact ⟨⟨oc, od, kV, doc, pm, an, _, ct, osl, e, lk, hcd⟩, k⟩
/-- the head's facts, of these addresses; tables left out -/
abbrev AlY : Type := He.AlT × Bool × List IniV
def obsY (as : List Addr) (fa : List He.Fa) (fn : List He.DefD) (ts : List He.Tab) (tf : List He.Defn) (ex : PySem.W.Frag → Bool) (er : List ErrD) (g : Addr → Option Obj) : AlY := (He.obsT fa fn ts (He.frT g as), ex (He.frT g as) && He.tabsB g tf (He.frT g as), er.map fun d => iniW (He.frT g as) d.x)
structure SaysY (fa : List He.Fa) (fn : List He.DefD) (ts : List He.Tab) (tf : List He.Defn) (ex : PySem.W.Frag → Bool) (er : List ErrD) (w : World) (h : Heap) (K : PySem.W.Frag) : Prop where
  t : He.SaysT fa fn ts w K
  more : ex K = true
  ini : (er.map fun d => iniW K d.x) = er.map ErrD.val
  hd : ∀ p ∈ tf, PySem.W.codeHdIn K (He.cT K p).1 (He.cT K p).2 = true
  out : ∀ p ∈ tf, K.lookup (He.cT K p).2 = none
  empty : ∀ p ∈ tf, h.get? (He.cT K p).2 = some { cls := .none, data := .fields #[] }
theorem saysY_of {as : List Addr} {fa : List He.Fa} {fn : List He.DefD} {ts : List He.Tab} {tf : List He.Defn} {ex : PySem.W.Frag → Bool} {er : List ErrD} {w : World} {h : Heap} (e : obsY as fa fn ts tf ex er h.get? = (He.valT fn ts w, true, er.map ErrD.val)) : SaysY fa fn ts tf ex er w h (He.frT h.get? as) := by
  have e1 : He.obsT fa fn ts (He.frT h.get? as) = He.valT fn ts w := congrArg (fun z : AlY => z.1) e
  have e2 : (ex (He.frT h.get? as) && He.tabsB h.get? tf (He.frT h.get? as)) = true := congrArg (fun z : AlY => z.2.1) e
  have e3 : (er.map fun d => iniW (He.frT h.get? as) d.x) = er.map ErrD.val := congrArg (fun z : AlY => z.2.2) e
  obtain ⟨h1, h2⟩ := He.ba e2
  have key : ∀ p ∈ tf, PySem.W.codeHdIn (He.frT h.get? as) (He.cT (He.frT h.get? as) p).1 (He.cT (He.frT h.get? as) p).2 = true ∧ ∃ o, h.get? (He.cT (He.frT h.get? as) p).2 = some o ∧ He.emptyTab o = true := fun p hp => by
    obtain ⟨h3, h4⟩ := He.ba (List.all_eq_true.mp h2 p hp)
    refine ⟨h3, ?_⟩
    cases q : h.get? (He.cT (He.frT h.get? as) p).2 with
    | none =>
      rw [q] at h4
      cases h4
    | some o =>
      rw [q] at h4
      exact ⟨o, rfl, h4⟩
  exact ⟨e1, h1, e3, fun p hp => (key p hp).1, fun p hp => by
    obtain ⟨_, o, q, z⟩ := key p hp
    exact He.frT_none q z, fun p hp => by
    obtain ⟨_, o, q, z⟩ := key p hp
    rw [q, He.emptyTab_eq z]⟩
def hookY (as : List Addr) (fa : List He.Fa) (fn : List He.DefD) (ts : List He.Tab) (tf : List He.Defn) (ex : PySem.W.Frag → Bool) (er : List ErrD) : PySem.W.Hook where
  α := AlY
  obs := fun s => obsY as fa fn ts tf ex er s.heap.get?
  val := fun w => (He.valT fn ts w, true, er.map ErrD.val)
  says := fun w h => ∃ K : PySem.W.Frag, K.In h ∧ SaysY fa fn ts tf ex er w h K
  of := fun _ _ e => ⟨_, He.frT_in, saysY_of e⟩
  keeps := fun _ _ _ ⟨K, hK, c⟩ k => ⟨K, PySem.W.Frag.In.keeps hK k, ⟨c.t, c.more, c.ini, c.hd, c.out, fun p hp => k _ _ (c.empty p hp)⟩⟩
theorem obsY_eq {as : List Addr} {fa : List He.Fa} {fn : List He.DefD} {ts : List He.Tab} {tf : List He.Defn} {ex : PySem.W.Frag → Bool} {er : List ErrD} {g : Addr → Option Obj} {s : Shared} (h : ∀ a, g a = s.heap.get? a) : obsY as fa fn ts tf ex er g = (hookY as fa fn ts tf ex er).obs s := by
  have e : g = s.heap.get? := funext h
  rw [e]
  rfl
theorem ini_at {K : PySem.W.Frag} {er : List ErrD} (h : (er.map fun d => iniW K d.x) = er.map ErrD.val) {i : Nat} {d : ErrD} (e : er[i]? = some d) : iniW K d.x = d.val := by
  have h2 : (er.map fun d => iniW K d.x)[i]? = (er.map ErrD.val)[i]? := by rw [h]
  rw [List.getElem?_map, List.getElem?_map, e] at h2
  exact Option.some.inj h2
/-- empty tables of lambdas, one by one -/
theorem tabs_nil {H : Hp} : LamX.Tabs [] H := fun p hp => nomatch hp
theorem tabs_one {H : Hp} {P : Addr} {q : Str} {r : List (Addr × Str)} (h : H P = some (.tbl #[])) (t : LamX.Tabs r H) : LamX.Tabs ((P, q) :: r) H := fun p hp => by
  rcases List.mem_cons.mp hp with rfl | hp
  · exact ⟨_, h, (by first | exact trivial | decide | exact .nil), fun _ _ z => by cases z⟩
  · exact t p hp
def dd_is_whole : He.DefD := ⟨("is_whole", none), "is_whole", "is_whole", defArgs s_is_whole, defBody s_is_whole, defScope s_is_whole, [], []⟩
def dd_downward : He.DefD := ⟨("downward", none), "downward", "downward", defArgs s_downward, defBody s_downward, defScope s_downward, [], []⟩
def dd_upward : He.DefD := ⟨("upward", none), "upward", "upward", defArgs s_upward, defBody s_upward, defScope s_upward, [], []⟩
def dd_inward : He.DefD := ⟨("inward", none), "inward", "inward", defArgs s_inward, defBody s_inward, defScope s_inward, [], []⟩
def dd_outward : He.DefD := ⟨("outward", none), "outward", "outward", defArgs s_outward, defBody s_outward, defScope s_outward, [], []⟩
def dd_nearest_greater : He.DefD := ⟨("nearest_greater", none), "nearest_greater", "nearest_greater", defArgs s_nearest_greater, defBody s_nearest_greater, defScope s_nearest_greater, [], []⟩
def dd_nearest_even : He.DefD := ⟨("nearest_even", none), "nearest_even", "nearest_even", defArgs s_nearest_even, defBody s_nearest_even, defScope s_nearest_even, [], []⟩
def dd_nearest_far : He.DefD := ⟨("nearest_far", none), "nearest_far", "nearest_far", defArgs s_nearest_far, defBody s_nearest_far, defScope s_nearest_far, [], []⟩
def dd_is_manner : He.DefD := ⟨("is_manner", none), "is_manner", "is_manner", defArgs s_is_manner, defBody s_is_manner, defScope s_is_manner, [], []⟩
def dd_rounded : He.DefD := ⟨("rounded", none), "rounded", "rounded", defArgs s_rounded, defBody s_rounded, defScope s_rounded, [.str "half"], []⟩
def dd_is_width : He.DefD := ⟨("is_width", none), "is_width", "is_width", defArgs s_is_width, defBody s_is_width, defScope s_is_width, [], []⟩
def dd_is_point : He.DefD := ⟨("is_point", none), "is_point", "is_point", defArgs s_is_point, defBody s_is_point, defScope s_is_point, [], []⟩
def dd_is_ends : He.DefD := ⟨("is_ends", none), "is_ends", "is_ends", defArgs s_is_ends, defBody s_is_ends, defScope s_is_ends, [], []⟩
def dd_is_place : He.DefD := ⟨("is_place", none), "is_place", "is_place", defArgs s_is_place, defBody s_is_place, defScope s_is_place, [], []⟩
def dd_is_factor : He.DefD := ⟨("is_factor", none), "is_factor", "is_factor", defArgs s_is_factor, defBody s_is_factor, defScope s_is_factor, [], []⟩
def dd_in_point : He.DefD := ⟨("in_point", none), "in_point", "in_point", defArgs s_in_point, defBody s_in_point, defScope s_in_point, [], []⟩
def dd_old_point : He.DefD := ⟨("old_point", none), "old_point", "old_point", defArgs s_old_point, defBody s_old_point, defScope s_old_point, [], []⟩
def dd_times_point : He.DefD := ⟨("times_point", none), "times_point", "times_point", defArgs s_times_point, defBody s_times_point, defScope s_times_point, [], []⟩
def dd_sum_point : He.DefD := ⟨("sum_point", none), "sum_point", "sum_point", defArgs s_sum_point, defBody s_sum_point, defScope s_sum_point, [], []⟩
def dd_move_point : He.DefD := ⟨("move_point", none), "move_point", "move_point", defArgs s_move_point, defBody s_move_point, defScope s_move_point, [], []⟩
def dd_keep_point : He.DefD := ⟨("keep_point", none), "keep_point", "keep_point", defArgs s_keep_point, defBody s_keep_point, defScope s_keep_point, [], []⟩
def dd_is_written_as_row : He.DefD := ⟨("is_written_as_row", none), "is_written_as_row", "is_written_as_row", defArgs s_is_written_as_row, defBody s_is_written_as_row, defScope s_is_written_as_row, [], []⟩
def dd_row_point : He.DefD := ⟨("row_point", none), "row_point", "row_point", defArgs s_row_point, defBody s_row_point, defScope s_row_point, [], []⟩
def dd_check_length : He.DefD := ⟨("check_length", none), "check_length", "check_length", defArgs s_check_length, defBody s_check_length, defScope s_check_length, [], []⟩
def dd_check_forms : He.DefD := ⟨("check_forms", none), "check_forms", "check_forms", defArgs s_check_forms, defBody s_check_forms, defScope s_check_forms, [], []⟩
def dd_is_hold : He.DefD := ⟨("is_hold", none), "is_hold", "is_hold", defArgs s_is_hold, defBody s_is_hold, defScope s_is_hold, [], []⟩
def dd_check_holds : He.DefD := ⟨("check_holds", none), "check_holds", "check_holds", defArgs s_check_holds, defBody s_check_holds, defScope s_check_holds, [], []⟩
def dd_checked_points : He.DefD := ⟨("checked_points", none), "checked_points", "checked_points", defArgs s_checked_points, defBody s_checked_points, defScope s_checked_points, [], []⟩
def dd_check_links : He.DefD := ⟨("check_links", none), "check_links", "check_links", defArgs s_check_links, defBody s_check_links, defScope s_check_links, [], []⟩
def dd_enter_form : He.DefD := ⟨("enter_form", none), "enter_form", "enter_form", defArgs s_enter_form, defBody s_enter_form, defScope s_enter_form, [], []⟩
def dd_swept : He.DefD := ⟨("swept", none), "swept", "swept", defArgs s_swept, defBody s_swept, defScope s_swept, [], []⟩
def dd_is_state : He.DefD := ⟨("is_state", none), "is_state", "is_state", defArgs s_is_state, defBody s_is_state, defScope s_is_state, [], []⟩
def dd_check_state : He.DefD := ⟨("check_state", none), "check_state", "check_state", defArgs s_check_state, defBody s_check_state, defScope s_check_state, [], []⟩
def dd_check_word : He.DefD := ⟨("check_word", none), "check_word", "check_word", defArgs s_check_word, defBody s_check_word, defScope s_check_word, [], []⟩
def dd_check_run : He.DefD := ⟨("check_run", none), "check_run", "check_run", defArgs s_check_run, defBody s_check_run, defScope s_check_run, [], []⟩
def dd_first_state : He.DefD := ⟨("first_state", none), "first_state", "first_state", defArgs s_first_state, defBody s_first_state, defScope s_first_state, [], []⟩
def dd_sum_number : He.DefD := ⟨("sum_number", none), "sum_number", "sum_number", defArgs s_sum_number, defBody s_sum_number, defScope s_sum_number, [], []⟩
def dd_number_of_row : He.DefD := ⟨("number_of_row", none), "number_of_row", "number_of_row", defArgs s_number_of_row, defBody s_number_of_row, defScope s_number_of_row, [], []⟩
def dd_state_behind : He.DefD := ⟨("state_behind", none), "state_behind", "state_behind", defArgs s_state_behind, defBody s_state_behind, defScope s_state_behind, [], []⟩
def dd_turn_of : He.DefD := ⟨("turn_of", none), "turn_of", "turn_of", defArgs s_turn_of, defBody s_turn_of, defScope s_turn_of, [], []⟩
def dd_went_over : He.DefD := ⟨("went_over", none), "went_over", "went_over", defArgs s_went_over, defBody s_went_over, defScope s_went_over, [], []⟩
def dd_turned : He.DefD := ⟨("turned", none), "turned", "turned", defArgs s_turned, defBody s_turned, defScope s_turned, [], []⟩
def dd_overs : He.DefD := ⟨("overs", none), "overs", "overs", defArgs s_overs, defBody s_overs, defScope s_overs, [], []⟩
def dd_run : He.DefD := ⟨("run", none), "run", "run", defArgs s_run, defBody s_run, defScope s_run, [.non], []⟩
def dd__law_cell_at : He.DefD := ⟨("_law_cell_at", none), "_law_cell_at", "_law_cell_at", defArgs s__law_cell_at, defBody s__law_cell_at, defScope s__law_cell_at, [], []⟩
def dd__law_well : He.DefD := ⟨("_law_well", none), "_law_well", "_law_well", defArgs s__law_well, defBody s__law_well, defScope s__law_well, [], []⟩
def dd__law_draw : He.DefD := ⟨("_law_draw", none), "_law_draw", "_law_draw", defArgs s__law_draw, defBody s__law_draw, defScope s__law_draw, [], []⟩
def dd__law_form : He.DefD := ⟨("_law_form", none), "_law_form", "_law_form", defArgs s__law_form, defBody s__law_form, defScope s__law_form, [], []⟩
def dd__law_word : He.DefD := ⟨("_law_word", none), "_law_word", "_law_word", defArgs s__law_word, defBody s__law_word, defScope s__law_word, [], []⟩
def dd__law_row : He.DefD := ⟨("_law_row", none), "_law_row", "_law_row", defArgs s__law_row, defBody s__law_row, defScope s__law_row, [], []⟩
def dd__law_begin : He.DefD := ⟨("_law_begin", none), "_law_begin", "_law_begin", defArgs s__law_begin, defBody s__law_begin, defScope s__law_begin, [], []⟩
def dd__law_mixed : He.DefD := ⟨("_law_mixed", none), "_law_mixed", "_law_mixed", defArgs s__law_mixed, defBody s__law_mixed, defScope s__law_mixed, [], []⟩
def dd__law_link : He.DefD := ⟨("_law_link", none), "_law_link", "_law_link", defArgs s__law_link, defBody s__law_link, defScope s__law_link, [], []⟩
def dd__law_net : He.DefD := ⟨("_law_net", none), "_law_net", "_law_net", defArgs s__law_net, defBody s__law_net, defScope s__law_net, [], []⟩
def dd__law_made : He.DefD := ⟨("_law_made", none), "_law_made", "_law_made", defArgs s__law_made, defBody s__law_made, defScope s__law_made, [], []⟩
def dd__law_bad_word : He.DefD := ⟨("_law_bad_word", none), "_law_bad_word", "_law_bad_word", defArgs s__law_bad_word, defBody s__law_bad_word, defScope s__law_bad_word, [], []⟩
def dd__law_bad_state : He.DefD := ⟨("_law_bad_state", none), "_law_bad_state", "_law_bad_state", defArgs s__law_bad_state, defBody s__law_bad_state, defScope s__law_bad_state, [], []⟩
def dd__law_said : He.DefD := ⟨("_law_said", none), "_law_said", "_law_said", defArgs s__law_said, defBody s__law_said, defScope s__law_said, [], []⟩
def dd__law_machine_right : He.DefD := ⟨("_law_machine_right", none), "_law_machine_right", "_law_machine_right", defArgs s__law_machine_right, defBody s__law_machine_right, defScope s__law_machine_right, [], []⟩
def dd_law : He.DefD := ⟨("law", none), "law", "law", defArgs s_law, defBody s_law, defScope s_law, [], []⟩
def dd_Form_least : He.DefD := ⟨("Form", some "least"), "least", "Form.least", defArgs s_Form_least, defBody s_Form_least, defScope s_Form_least, [], []⟩
def dd_Form_greatest : He.DefD := ⟨("Form", some "greatest"), "greatest", "Form.greatest", defArgs s_Form_greatest, defBody s_Form_greatest, defScope s_Form_greatest, [], []⟩
def dd_Form_has : He.DefD := ⟨("Form", some "has"), "has", "Form.has", defArgs s_Form_has, defBody s_Form_has, defScope s_Form_has, [], []⟩
def dd_Form_word_for : He.DefD := ⟨("Form", some "word_for"), "word_for", "Form.word_for", defArgs s_Form_word_for, defBody s_Form_word_for, defScope s_Form_word_for, [], []⟩
def dd_Form_ended : He.DefD := ⟨("Form", some "ended"), "ended", "Form.ended", defArgs s_Form_ended, defBody s_Form_ended, defScope s_Form_ended, [], []⟩
def dd_Form_kept_at : He.DefD := ⟨("Form", some "kept_at"), "kept_at", "Form.kept_at", defArgs s_Form_kept_at, defBody s_Form_kept_at, defScope s_Form_kept_at, [], []⟩
def dd_Form___eq__ : He.DefD := ⟨("Form", some "__eq__"), "__eq__", "Form.__eq__", defArgs s_Form___eq__, defBody s_Form___eq__, defScope s_Form___eq__, [], []⟩
def dd_Net_forms : He.DefD := ⟨("Net", some "forms"), "forms", "Net.forms", defArgs s_Net_forms, defBody s_Net_forms, defScope s_Net_forms, [], []⟩
def dd_Net_rows : He.DefD := ⟨("Net", some "rows"), "rows", "Net.rows", defArgs s_Net_rows, defBody s_Net_rows, defScope s_Net_rows, [], []⟩
def dd_Net_holds : He.DefD := ⟨("Net", some "holds"), "holds", "Net.holds", defArgs s_Net_holds, defBody s_Net_holds, defScope s_Net_holds, [], []⟩
def dd_Net_points : He.DefD := ⟨("Net", some "points"), "points", "Net.points", defArgs s_Net_points, defBody s_Net_points, defScope s_Net_points, [], []⟩
def dd_Net_enters : He.DefD := ⟨("Net", some "enters"), "enters", "Net.enters", defArgs s_Net_enters, defBody s_Net_enters, defScope s_Net_enters, [], []⟩
def dd_Net_keeps : He.DefD := ⟨("Net", some "keeps"), "keeps", "Net.keeps", defArgs s_Net_keeps, defBody s_Net_keeps, defScope s_Net_keeps, [], []⟩
def dd_Net_start : He.DefD := ⟨("Net", some "start"), "start", "Net.start", defArgs s_Net_start, defBody s_Net_start, defScope s_Net_start, [], []⟩
def dd_Net_out : He.DefD := ⟨("Net", some "out"), "out", "Net.out", defArgs s_Net_out, defBody s_Net_out, defScope s_Net_out, [], []⟩
def dd_Net___eq__ : He.DefD := ⟨("Net", some "__eq__"), "__eq__", "Net.__eq__", defArgs s_Net___eq__, defBody s_Net___eq__, defScope s_Net___eq__, [], []⟩
def dd_Net___init__ : He.DefD := ⟨("Net", some "__init__"), "__init__", "Net.__init__", defArgs s_Net___init__, defBody s_Net___init__, defScope s_Net___init__, [], []⟩
def dd_Machine_turn : He.DefD := ⟨("Machine", some "turn"), "turn", "Machine.turn", defArgs s_Machine_turn, defBody s_Machine_turn, defScope s_Machine_turn, [], []⟩
def dd_Machine_turns : He.DefD := ⟨("Machine", some "turns"), "turns", "Machine.turns", defArgs s_Machine_turns, defBody s_Machine_turns, defScope s_Machine_turns, [], []⟩
def dd_Machine_state : He.DefD := ⟨("Machine", some "state"), "state", "Machine.state", defArgs s_Machine_state, defBody s_Machine_state, defScope s_Machine_state, [], []⟩
def dd_Machine_numbers : He.DefD := ⟨("Machine", some "numbers"), "numbers", "Machine.numbers", defArgs s_Machine_numbers, defBody s_Machine_numbers, defScope s_Machine_numbers, [], []⟩
def dd_Machine_overs : He.DefD := ⟨("Machine", some "overs"), "overs", "Machine.overs", defArgs s_Machine_overs, defBody s_Machine_overs, defScope s_Machine_overs, [], []⟩
def dd_Machine_went : He.DefD := ⟨("Machine", some "went"), "went", "Machine.went", defArgs s_Machine_went, defBody s_Machine_went, defScope s_Machine_went, [], []⟩
def dd_Machine___init__ : He.DefD := ⟨("Machine", some "__init__"), "__init__", "Machine.__init__", defArgs s_Machine___init__, defBody s_Machine___init__, defScope s_Machine___init__, [.non], []⟩
def ed_CU : ErrD := ⟨"Unfit", "Unfit.__init__", defArgs s_Unfit___init__, defBody s_Unfit___init__, defScope s_Unfit___init__, true⟩
def dd_Form___init__ : He.DefD := ⟨("Form", some "__init__"), "__init__", "Form.__init__", defArgs s_Form___init__, defBody s_Form___init__, defScope s_Form___init__, [.non, .int 0, .str "half", .str "wrap"], []⟩
def FN_0 : List He.DefD := [dd_is_whole, dd_downward, dd_upward, dd_inward, dd_outward, dd_nearest_greater, dd_nearest_even, dd_nearest_far, dd_is_manner, dd_rounded, dd_is_width, dd_is_point, dd_is_ends, dd_is_place, dd_is_factor, dd_in_point, dd_old_point, dd_times_point, dd_sum_point, dd_move_point]
def FN_1 : List He.DefD := [dd_keep_point, dd_is_written_as_row, dd_row_point, dd_check_length, dd_check_forms, dd_is_hold, dd_check_holds, dd_checked_points, dd_check_links, dd_enter_form, dd_swept, dd_is_state, dd_check_state, dd_check_word, dd_check_run, dd_first_state, dd_sum_number, dd_number_of_row, dd_state_behind, dd_turn_of]
def FN_2 : List He.DefD := [dd_went_over, dd_turned, dd_overs, dd_run, dd__law_cell_at, dd__law_well, dd__law_draw, dd__law_form, dd__law_word, dd__law_row, dd__law_begin, dd__law_mixed, dd__law_link, dd__law_net, dd__law_made, dd__law_bad_word, dd__law_bad_state, dd__law_said, dd__law_machine_right, dd_law]
def FN_3 : List He.DefD := [dd_Form_least, dd_Form_greatest, dd_Form_has, dd_Form_word_for, dd_Form_ended, dd_Form_kept_at, dd_Form___eq__, dd_Net_forms, dd_Net_rows, dd_Net_holds, dd_Net_points, dd_Net_enters, dd_Net_keeps, dd_Net_start, dd_Net_out, dd_Net___eq__, dd_Net___init__, dd_Machine_turn, dd_Machine_turns, dd_Machine_state]
def FN_4 : List He.DefD := [dd_Machine_numbers, dd_Machine_overs, dd_Machine_went, dd_Machine___init__, dd_Form___init__]
def FN : List He.DefD := FN_0 ++ (FN_1 ++ (FN_2 ++ (FN_3 ++ (FN_4))))
def FA_0 : List He.Fa := [.glo "is_whole", .glo "downward", .glo "upward", .glo "inward", .glo "outward", .glo "nearest_greater", .glo "nearest_even", .glo "nearest_far", .glo "is_manner", .glo "rounded", .glo "is_width", .glo "is_point", .glo "is_ends", .glo "is_place", .glo "is_factor", .glo "in_point", .glo "old_point", .glo "times_point", .glo "sum_point", .glo "move_point"]
def FA_1 : List He.Fa := [.glo "keep_point", .glo "is_written_as_row", .glo "row_point", .glo "check_length", .glo "check_forms", .glo "is_hold", .glo "check_holds", .glo "checked_points", .glo "check_links", .glo "enter_form", .glo "swept", .glo "is_state", .glo "check_state", .glo "check_word", .glo "check_run", .glo "first_state", .glo "sum_number", .glo "number_of_row", .glo "state_behind", .glo "turn_of"]
def FA_2 : List He.Fa := [.glo "went_over", .glo "turned", .glo "overs", .glo "run", .glo "_law_cell_at", .glo "_law_well", .glo "_law_draw", .glo "_law_form", .glo "_law_word", .glo "_law_row", .glo "_law_begin", .glo "_law_mixed", .glo "_law_link", .glo "_law_net", .glo "_law_made", .glo "_law_bad_word", .glo "_law_bad_state", .glo "_law_said", .glo "_law_machine_right", .glo "law"]
def FA_3 : List He.Fa := [.glo "Form", .cls "Form", .mkr "Form", .noat "Form" "width", .noat "Form" "point", .noat "Form" "manner", .noat "Form" "ends", .glo "Net", .cls "Net", .mkr "Net", .noat "Net" "form_list", .noat "Net" "enters_at", .noat "Net" "row_list", .noat "Net" "hold_list", .noat "Net" "out_at", .noat "Net" "point_list", .meth "Form" "least", .meth "Form" "greatest", .meth "Form" "has", .meth "Form" "word_for"]
def FA_4 : List He.Fa := [.meth "Form" "ended", .meth "Form" "kept_at", .meth "Form" "__eq__", .meth "Net" "forms", .meth "Net" "rows", .meth "Net" "holds", .meth "Net" "points", .meth "Net" "enters", .meth "Net" "keeps", .meth "Net" "start", .meth "Net" "out", .meth "Net" "__eq__", .meth "Net" "__init__", .glo "Machine", .cls "Machine", .mkr "Machine", .noat "Machine" "first", .noat "Machine" "net", .noat "Machine" "past", .meth "Machine" "turn"]
def FA_5 : List He.Fa := [.meth "Machine" "turns", .meth "Machine" "state", .meth "Machine" "numbers", .meth "Machine" "overs", .meth "Machine" "went", .meth "Machine" "__init__", .glo "EchoError", .glo "BadState", .glo "BadNet", .glo "NoTurn", .glo "Unfit", .meth "Form" "__init__", .int "LEAST_WIDTH" 2, .int "GREATEST_WIDTH" 64, .int "GREATEST_POINT" 64, .int "MOST_FORMS" 12, .int "MOST_ROWS" 60, .int "MOST_HOLDS" 6, .int "FACTOR_END" 9223372036854775808, .int "GREATEST_SHIFT" 64]
def FA_6 : List He.Fa := [.int "GREATEST_ROW_POINT" 200, .glo "ENDS", .glo "MANNERS", .glo "POINT_RULES", .glo "ROW_LENGTHS", .free "isinstance", .free "int", .free "bool", .free "abs", .free "str", .free "len", .free "max", .free "tuple", .free "list", .free "enumerate", .free "all", .free "zip", .free "range", .free "min", .free "sorted"]
def FA : List He.Fa := FA_0 ++ (FA_1 ++ (FA_2 ++ (FA_3 ++ (FA_4 ++ (FA_5 ++ (FA_6))))))
def TS_0 : List He.Tab := [(fun K => He.ga K "MANNERS", ["down", "up", "in", "out", "half", "even", "far"]), (fun K => He.ga K "POINT_RULES", ["in", "old", "times", "plus", "less", "move", "keep"]), (fun K => He.ga K "ROW_LENGTHS", ["in", "old", "times", "plus", "less", "move", "keep"])]
def TS : List He.Tab := TS_0
def EXL_0 (K : PySem.W.Frag) : List Bool := [decide ((He.cT K ("law", none)).2 ≠ (He.cT K ("_law_machine_right", none)).2), decide (PySem.W.excInitIn K (He.ga K "Unfit") PySem.ErrX.bmA "ArithmeticError.__new__" = true), decide (PySem.W.excOver K (He.ga K "Unfit") PySem.ErrX.bmA = true), decide (PySem.W.findIn K (.ref (He.ga K "Unfit")) "__setattr__" = some (some (.builtin "object.__setattr__"))), decide (PySem.W.findIn K (.ref (He.ga K "Unfit")) "__getattribute__" = some (some (.builtin "BaseException.__getattribute__"))), decide (PySem.W.findIn K (.ref (He.ga K "Unfit")) "__getattr__" = some none), decide (PySem.W.keepIn K (.ref (He.ga K "Unfit")) = true), decide (PySem.W.subIn K (.ref (He.ga K "Unfit")) (.type "BaseException") = some true), decide (PySem.W.typeIn K (.ref (He.ga K "Unfit")) = some (.type "type")), decide (PySem.W.hasDictIn K (He.ga K "Unfit") = true), decide (PySem.W.findIn K (.ref (He.ga K "Unfit")) "__class__" = some (some (.builtin "object.__class__"))), decide (PySem.W.specialIn K (.builtin "object.__class__") "__get__" = some (some (.builtin "getset_descriptor.__get__"))), decide (PySem.W.takesIn K (.builtin "object.__class__") = some true), decide (PySem.W.mroIn K (He.ga K "Unfit") (.type "object") = some true), decide (PySem.W.findIn K (.ref (He.ga K "Unfit")) "__init__" = some (some (.ref (iniA K "Unfit")))), decide (PySem.W.typeIn K (.ref (iniA K "Unfit")) = some (.type "function")), decide (PySem.W.findIn K (.ref (He.ga K "Unfit")) "at" = some none), decide (PySem.W.ks_superIn K (He.ga K "Unfit") (He.ga K "Unfit") "__init__" = some (some (.builtin "ArithmeticError.__init__"))), decide (PySem.W.subIn K (.ref (He.ga K "Unfit")) (.type "ArithmeticError") = some true), decide (PySem.W.mroIn K (He.ga K "Unfit") (.ref (He.ga K "Unfit")) = some true)]
def EXL_1 (K : PySem.W.Frag) : List Bool := [decide (PySem.W.nsIn K cStatics "thirdparty.any" = some none), decide (PySem.W.nsIn K mainGlobals "super" = some none), ed_CU.ok K, decide (PySem.W.excIn K (He.ga K "BadState") PySem.ErrX.bmA "ArithmeticError.__new__" = true), decide (PySem.W.keepIn K (.ref (He.ga K "BadState")) = true), decide (PySem.W.subIn K (.ref (He.ga K "BadState")) (.type "BaseException") = some true), decide (PySem.W.typeIn K (.ref (He.ga K "BadState")) = some (.type "type")), decide (PySem.W.findIn K (.ref (He.ga K "BadState")) "__getattribute__" = some (some (.builtin "BaseException.__getattribute__"))), decide (PySem.W.findIn K (.ref (He.ga K "BadState")) "__getattr__" = some none), decide (PySem.W.hasDictIn K (He.ga K "BadState") = true), decide (PySem.W.findIn K (.ref (He.ga K "BadState")) "__class__" = some (some (.builtin "object.__class__"))), decide (PySem.W.specialIn K (.builtin "object.__class__") "__get__" = some (some (.builtin "getset_descriptor.__get__"))), decide (PySem.W.takesIn K (.builtin "object.__class__") = some true), decide (PySem.W.mroIn K (He.ga K "BadState") (.type "object") = some true), decide (PySem.W.exmOne K (.ref (He.ga K "BadState")) (.ref (He.ga K "EchoError")) = some true), decide (PySem.W.exmOne K (.ref (He.ga K "Unfit")) (.ref (He.ga K "EchoError")) = some true), decide (PySem.W.kitOne K (.ref (He.ga K "BadState")) (.ref (He.ga K "BadState")) = some true), decide (PySem.W.kitOne K (.ref (He.ga K "BadState")) (.ref (He.ga K "Unfit")) = some false), decide (PySem.W.kitOne K (.ref (He.ga K "BadState")) (.ref (He.ga K "BadNet")) = some false), decide (PySem.W.kitOne K (.ref (He.ga K "BadState")) (.ref (He.ga K "NoTurn")) = some false)]
def EXL_2 (K : PySem.W.Frag) : List Bool := [decide (PySem.W.kitOne K (.ref (He.ga K "Unfit")) (.ref (He.ga K "BadState")) = some false), decide (PySem.W.kitOne K (.ref (He.ga K "Unfit")) (.ref (He.ga K "Unfit")) = some true), decide (PySem.W.kitOne K (.ref (He.ga K "Unfit")) (.ref (He.ga K "BadNet")) = some false), decide (PySem.W.kitOne K (.ref (He.ga K "Unfit")) (.ref (He.ga K "NoTurn")) = some false), decide (PySem.W.nsIn K mainGlobals "overs_machines" = some (some (.ref (He.ga K "overs")))), He.tupB K "ENDS" [.str "wrap", .str "stop"], decide (PySem.W.nsIn K (He.ga K "MANNERS") "down" = some (some (.ref (He.ga K "downward")))), decide (PySem.W.nsIn K (He.ga K "MANNERS") "up" = some (some (.ref (He.ga K "upward")))), decide (PySem.W.nsIn K (He.ga K "MANNERS") "in" = some (some (.ref (He.ga K "inward")))), decide (PySem.W.nsIn K (He.ga K "MANNERS") "out" = some (some (.ref (He.ga K "outward")))), decide (PySem.W.nsIn K (He.ga K "MANNERS") "half" = some (some (.ref (He.ga K "nearest_greater")))), decide (PySem.W.nsIn K (He.ga K "MANNERS") "even" = some (some (.ref (He.ga K "nearest_even")))), decide (PySem.W.nsIn K (He.ga K "MANNERS") "far" = some (some (.ref (He.ga K "nearest_far")))), decide (PySem.W.nsIn K (He.ga K "POINT_RULES") "in" = some (some (.ref (He.ga K "in_point")))), decide (PySem.W.nsIn K (He.ga K "POINT_RULES") "old" = some (some (.ref (He.ga K "old_point")))), decide (PySem.W.nsIn K (He.ga K "POINT_RULES") "times" = some (some (.ref (He.ga K "times_point")))), decide (PySem.W.nsIn K (He.ga K "POINT_RULES") "plus" = some (some (.ref (He.ga K "sum_point")))), decide (PySem.W.nsIn K (He.ga K "POINT_RULES") "less" = some (some (.ref (He.ga K "sum_point")))), decide (PySem.W.nsIn K (He.ga K "POINT_RULES") "move" = some (some (.ref (He.ga K "move_point")))), decide (PySem.W.nsIn K (He.ga K "POINT_RULES") "keep" = some (some (.ref (He.ga K "keep_point"))))]
def EXL_3 (K : PySem.W.Frag) : List Bool := [He.valsB K (He.ga K "ROW_LENGTHS") [("in", .int 1), ("old", .int 2), ("times", .int 4), ("plus", .int 3), ("less", .int 3), ("move", .int 3), ("keep", .int 3)], decide (PySem.W.findIn K (.ref (He.ga K "Form")) "__class__" = some (some (.builtin "object.__class__"))), decide (PySem.W.specialIn K (.builtin "object.__class__") "__get__" = some (some (.builtin "getset_descriptor.__get__"))), decide (PySem.W.takesIn K (.builtin "object.__class__") = some true), decide (PySem.W.mroIn K (He.ga K "Form") (.type "object") = some true), decide (PySem.W.kitOne K (.ref (He.ga K "Form")) (.ref (He.ga K "Form")) = some true), decide (PySem.W.findIn K (.ref (He.ga K "Net")) "__class__" = some (some (.builtin "object.__class__"))), decide (PySem.W.mroIn K (He.ga K "Net") (.type "object") = some true), decide (PySem.W.kitOne K (.ref (He.ga K "Net")) (.ref (He.ga K "Net")) = some true)]
def EXL (K : PySem.W.Frag) : List Bool := EXL_0 K ++ (EXL_1 K ++ (EXL_2 K ++ (EXL_3 K)))
def EXB (K : PySem.W.Frag) : Bool := (EXL K).all id
def ER_0 : List ErrD := [ed_CU]
def ER : List ErrD := ER_0
def TF : List He.Defn := [("law", none), ("_law_machine_right", none)]
end E1

namespace HX
open PySem PySem.W PySem.Calls PyProof.Rows
abbrev RR : OpenRow := OpenLaw.row PySem.Challenge.rw_echobound_k30_turns_refused
abbrev qv : Program := view RR.prog [97]
def names_0 : List PySem.Str := [("_wall" : PySem.Str), ("__name__" : PySem.Str), ("EchoError" : PySem.Str), ("NoFraction" : PySem.Str), ("BadState" : PySem.Str), ("BadForm" : PySem.Str), ("Unfit" : PySem.Str), ("BadNet" : PySem.Str), ("NoTurn" : PySem.Str), ("GREATEST_POWER" : PySem.Str), ("is_whole" : PySem.Str), ("shared_divisor" : PySem.Str), ("lowest" : PySem.Str), ("times" : PySem.Str), ("divided" : PySem.Str), ("two_to" : PySem.Str), ("downward" : PySem.Str), ("upward" : PySem.Str), ("inward" : PySem.Str), ("outward" : PySem.Str)]
def names_1 : List PySem.Str := [("nearest_greater" : PySem.Str), ("nearest_even" : PySem.Str), ("nearest_far" : PySem.Str), ("MANNERS" : PySem.Str), ("is_manner" : PySem.Str), ("rounded" : PySem.Str), ("LEAST_WIDTH" : PySem.Str), ("GREATEST_WIDTH" : PySem.Str), ("GREATEST_POINT" : PySem.Str), ("ENDS" : PySem.Str), ("is_width" : PySem.Str), ("is_point" : PySem.Str), ("is_ends" : PySem.Str), ("Form" : PySem.Str), ("MOST_FORMS" : PySem.Str), ("MOST_ROWS" : PySem.Str), ("MOST_HOLDS" : PySem.Str), ("FACTOR_END" : PySem.Str), ("GREATEST_SHIFT" : PySem.Str), ("GREATEST_ROW_POINT" : PySem.Str)]
def names_2 : List PySem.Str := [("ROW_LENGTHS" : PySem.Str), ("is_place" : PySem.Str), ("is_factor" : PySem.Str), ("in_point" : PySem.Str), ("old_point" : PySem.Str), ("times_point" : PySem.Str), ("sum_point" : PySem.Str), ("move_point" : PySem.Str), ("keep_point" : PySem.Str), ("POINT_RULES" : PySem.Str), ("is_written_as_row" : PySem.Str), ("row_point" : PySem.Str), ("check_length" : PySem.Str), ("check_forms" : PySem.Str), ("is_hold" : PySem.Str), ("check_holds" : PySem.Str), ("checked_points" : PySem.Str), ("check_links" : PySem.Str), ("Net" : PySem.Str), ("enter_form" : PySem.Str)]
def names_3 : List PySem.Str := [("swept" : PySem.Str), ("is_state" : PySem.Str), ("check_state" : PySem.Str), ("check_word" : PySem.Str), ("check_run" : PySem.Str), ("first_state" : PySem.Str), ("sum_number" : PySem.Str), ("number_of_row" : PySem.Str), ("state_behind" : PySem.Str), ("turn_of" : PySem.Str), ("went_over" : PySem.Str), ("turned" : PySem.Str), ("overs" : PySem.Str), ("overs_machines" : PySem.Str), ("run" : PySem.Str), ("Machine" : PySem.Str), ("_law_cell_at" : PySem.Str), ("_law_well" : PySem.Str), ("_law_draw" : PySem.Str), ("_law_form" : PySem.Str)]
def names_4 : List PySem.Str := [("_law_word" : PySem.Str), ("_law_row" : PySem.Str), ("_law_begin" : PySem.Str), ("_law_mixed" : PySem.Str), ("_law_link" : PySem.Str), ("_law_net" : PySem.Str), ("_law_made" : PySem.Str), ("_law_bad_word" : PySem.Str), ("_law_bad_state" : PySem.Str), ("_law_said" : PySem.Str), ("_law_machine_right" : PySem.Str)]
def names : List PySem.Str := names_0 ++ (names_1 ++ (names_2 ++ (names_3 ++ (names_4))))
def AS_0 : List Addr := [3, 6, 4, 21, 31, 44, 56, 77, 99, 121, 142, 151, 158, 165, 172, 179, 186, 193, 200, 207, 214, 221, 228, 235, 236, 243, 251, 252, 259, 266]
def AS_1 : List Addr := [273, 410, 415, 422, 429, 436, 443, 450, 457, 464, 471, 472, 479, 486, 493, 500, 507, 514, 521, 528, 623, 634, 641, 646, 653, 660, 667, 674, 681, 688]
def AS_2 : List Addr := [693, 700, 707, 714, 719, 727, 800, 811, 818, 825, 832, 839, 846, 851, 858, 863, 868, 873, 880, 887, 894, 901, 906, 0, 20, 30, 43, 55, 76, 98]
def AS_3 : List Addr := [120, 141, 150, 157, 164, 171, 178, 185, 192, 199, 206, 213, 220, 227, 234, 242, 250, 244, 258, 265, 272, 409, 421, 428, 435, 442, 449, 456, 463, 470]
def AS_4 : List Addr := [478, 485, 492, 499, 506, 513, 520, 527, 622, 633, 640, 645, 652, 659, 666, 673, 680, 687, 692, 699, 706, 713, 718, 726, 720, 799, 810, 817, 824, 831]
def AS_5 : List Addr := [838, 845, 850, 857, 862, 867, 872, 879, 886, 893, 900, 905, 19, 74, 96, 118, 139, 149, 156, 163, 170, 177, 184, 191, 198, 205, 212, 219, 226, 233]
def AS_6 : List Addr := [241, 249, 257, 264, 271, 288, 295, 302, 309, 316, 323, 330, 337, 344, 351, 358, 365, 372, 379, 386, 393, 400, 407, 420, 427, 434, 441, 448, 455, 462]
def AS_7 : List Addr := [469, 477, 484, 491, 498, 505, 512, 519, 526, 540, 547, 554, 561, 568, 575, 582, 587, 592, 599, 606, 613, 620, 632, 639, 644, 651, 658, 665, 672, 679]
def AS_8 : List Addr := [686, 691, 698, 705, 712, 717, 725, 742, 749, 756, 763, 770, 777, 782, 790, 797, 809, 816, 823, 830, 837, 844, 849, 856, 861, 866, 871, 878, 885, 892]
def AS_9 : List Addr := [899, 904, 73, 95, 88, 117, 110, 138, 287, 281, 294, 301, 308, 315, 322, 329, 336, 343, 350, 357, 364, 371, 378, 385, 392, 399, 406, 539, 546, 553]
def AS_10 : List Addr := [560, 567, 574, 581, 586, 591, 598, 605, 612, 619, 741, 735, 748, 755, 762, 769, 776, 781, 789, 783, 796, 72, 94, 116, 137, 286, 293, 300, 307, 314]
def AS_11 : List Addr := [321, 328, 335, 342, 349, 356, 363, 370, 377, 384, 391, 398, 405, 538, 545, 552, 559, 566, 573, 580, 585, 590, 597, 604, 611, 618, 740, 747, 754, 761]
def AS_12 : List Addr := [768, 775, 780, 788, 795, 62, 83, 105, 127, 2]
def AS : List Addr := AS_0 ++ (AS_1 ++ (AS_2 ++ (AS_3 ++ (AS_4 ++ (AS_5 ++ (AS_6 ++ (AS_7 ++ (AS_8 ++ (AS_9 ++ (AS_10 ++ (AS_11 ++ (AS_12))))))))))))
abbrev hk : PySem.W.Hook := E1.hookY AS E1.FA E1.FN E1.TS E1.TF E1.EXB E1.ER
def ob (s : PySem.W.SharedT) : E1.AlY := E1.obsY AS E1.FA E1.FN E1.TS E1.TF E1.EXB E1.ER (HandSHeadRun.getT s)
theorem ob_eq (s : PySem.W.SharedT) : ob s = hk.obs s.abs := E1.obsY_eq (HandSHeadRun.getT_eq s)
set_option maxRecDepth 100000 in
set_option maxHeartbeats 0 in
theorem run_f (w : World) : HandSHeadRun.RunEq RR qv hk ob 6174 names (w.withFollow "special-get-raises" false) := fun os => by kernel_rfl
set_option maxRecDepth 100000 in
set_option maxHeartbeats 0 in
theorem run_t (w : World) : HandSHeadRun.RunEq RR qv hk ob 6174 names (w.withFollow "special-get-raises" true) := fun os => by kernel_rfl
theorem run (w : World) : HandSHeadRun.RunEq RR qv hk ob 6174 names w :=
  byRow2 "special-get-raises" (P := fun w => HandSHeadRun.RunEq RR qv hk ob 6174 names w) run_f run_t w
end HX

namespace E1
open PySem PySem.Spec PyProof.Rows L2

abbrev lawQ : Str := (envOfC "law" (defScope s_law) 0 0 .none).qual ++ "<lambda>"
abbrev mrQ : Str := (envOfC "_law_machine_right" (defScope s__law_machine_right) 0 0 .none).qual ++ "<lambda>"
def T30 (Pt Pm : Addr) : List (Addr × Str) := [(Pt, lawQ), (Pm, mrQ)]
theorem hu_law {Pt Pm : Addr} (nP : Pt ≠ Pm) : ∀ p ∈ T30 Pt Pm, p.1 = Pt → p.2 = lawQ := fun p hp e => by
  rcases List.mem_cons.mp hp with rfl | hp
  · rfl
  · rw [List.mem_singleton.mp hp] at e
    exact absurd e.symm nP
theorem hu_mr {Pt Pm : Addr} (nP : Pt ≠ Pm) : ∀ p ∈ T30 Pt Pm, p.1 = Pm → p.2 = mrQ := fun p hp e => by
  rcases List.mem_cons.mp hp with rfl | hp
  · exact absurd e nP
  · rw [List.mem_singleton.mp hp]
/-- what a machine is seen to be -/
def Snap (G : Hp) (p : Addr) (n : NetP) (st0 : List Int) (hist : List Trn) : Prop := ∃ t l o w, G p = some (.tup [.ref t, .int (hist.length : Nat), .ref l, .ref o, .ref w]) ∧ G t = some (.tup ((stOf st0 hist).map V.int)) ∧ G l = some (.lst ((lastN hist).map V.int)) ∧ G o = some (.lst ((lastO n hist).map nI)) ∧ TL7 G w ((wentTo n hist hist.length).map pairV)
theorem Snap.ext {G G' : Hp} {p : Addr} {n : NetP} {st0 : List Int} {hist : List Trn} (h : Snap G p n st0 hist) (s : LamX.ExtN G G') : Snap G' p n st0 hist := by
  obtain ⟨t, l, o, w, h1, h2, h3, h4, h5⟩ := h
  exact ⟨t, l, o, w, s _ _ h1 (fun _ z => nomatch z), s _ _ h2 (fun _ z => nomatch z), s _ _ h3 (fun _ z => nomatch z), s _ _ h4 (fun _ z => nomatch z), h5.ext s⟩
theorem Snap.same {G G' : Hp} {p : Addr} {n : NetP} {st0 : List Int} {hist : List Trn} (h : Snap G p n st0 hist) (s : Same G G') : Snap G' p n st0 hist := h.ext (.of s)
def pairD (p : Nat × Nat) : PyData := .tuple [.int p.1, .int p.2]
def snapD (n : NetP) (st0 : List Int) (hist : List Trn) : PyData := .tuple [.tuple ((stOf st0 hist).map PyData.int), .int (hist.length : Nat), .list ((lastN hist).map PyData.int), .list (((lastO n hist).map fun k : Nat => (k : Int)).map PyData.int), .list ((wentTo n hist hist.length).map pairD)]
theorem dp_ints {K : PySem.W.Frag} {H : Hp} : ∀ l : List Int, DpAll K H (l.map V.int) (l.map PyData.int)
  | [] => .nil
  | _ :: l => .cons (.int _) (dp_ints l)
theorem dp_nats3 {K : PySem.W.Frag} {H : Hp} : ∀ l : List Nat, DpAll K H (l.map nI) ((l.map fun k : Nat => (k : Int)).map PyData.int)
  | [] => .nil
  | _ :: l => .cons (.int _) (dp_nats3 l)
theorem dp_pairs {K : PySem.W.Frag} {H : Hp} : ∀ (l : List (Nat × Nat)) (vs : List V), TsAt H vs (l.map pairV) → DpAll K H vs (l.map pairD)
  | [], vs, h => by
    cases h
    exact .nil
  | p :: l, vs, h => by
    rw [List.map_cons] at h
    cases h with
    | cons e r => exact .cons (.tup (SqT.of e) (.cons (.int _) (.cons (.int _) .nil))) (dp_pairs l _ r)
theorem Snap.dp {K : PySem.W.Frag} {G : Hp} {p : Addr} {n : NetP} {st0 : List Int} {hist : List Trn} (h : Snap G p n st0 hist) : Dp K G (.ref p) (snapD n st0 hist) := by
  obtain ⟨t, l, o, w, h1, h2, h3, h4, wv, h5, h6⟩ := h
  exact .tup (SqT.of h1) (.cons (.tup (SqT.of h2) (dp_ints _)) (.cons (.int _) (.cons (.lst (SqL.of h3) (dp_ints _)) (.cons (.lst (SqL.of h4) (dp_nats3 _)) (.cons (.lst (SqL.of h5) (dp_pairs _ _ h6)) .nil)))))
theorem pairs_lay : ∀ l : List (Nat × Nat), PyData.canLayAll0 (l.map pairD) = true
  | [] => by simp [PyData.canLayAll0]
  | p :: l => by
    rw [List.map_cons]
    simp [PyData.canLayAll0, PyData.canLay0, pairD, pairs_lay l]
theorem pairs_depth : ∀ l : List (Nat × Nat), PyData.depthAll (l.map pairD) ≤ 2
  | [] => by simp [PyData.depthAll]
  | p :: l => by
    rw [List.map_cons]
    have := pairs_depth l
    simp [PyData.depthAll, PyData.depth, pairD] at this ⊢
    omega
theorem snap_lay (n : NetP) (st0 : List Int) (hist : List Trn) : (snapD n st0 hist).canLay0 = true := by
  unfold snapD
  simp only [PyData.canLay0, PyData.canLayAll0, ints_lay, pairs_lay, Bool.and_self, Bool.true_and, Bool.and_true]
theorem snap_shaped (n : NetP) (st0 : List Int) (hist : List Trn) : SeqAt.shaped (snapD n st0 hist) = true := by
  unfold SeqAt.shaped
  rw [snap_lay, Bool.true_and, decide_eq_true_eq]
  have h1 := ints_depth (stOf st0 hist)
  have h2 := ints_depth (lastN hist)
  have h3 := ints_depth ((lastO n hist).map fun k : Nat => (k : Int))
  have h4 := pairs_depth (wentTo n hist hist.length)
  unfold snapD
  simp only [PyData.depth, PyData.depthAll]
  omega
theorem snap_eq (n : NetP) (st0 : List Int) (hist : List Trn) : PyData.eqv (snapD n st0 hist) (snapD n st0 hist) = true := SeqAt.eqv_refl _ (snap_lay n st0 hist)
theorem make_same {G : Hp} {x dx C : Addr} (hx : G x = none) (hdx : G dx = none) (ne : dx ≠ x) : Same G (upd (upd G dx (.own x)) x (.ins C dx [])) :=
  (same_new hdx).trans (same_new (by rw [upd_ne ne.symm]; exact hx))
def Fit30 (n : NetP) (st : List Int) (x : Int) : Prop := RunOk n st [x, x] ∧ RunOk n st [x]
def sp30MR (Pt Pm C CN : Addr) : Sp := fun vs H Q _ => ∃ (B : Hp) (np sa : Addr) (n : NetP) (st : List Int) (x : Int) (bad nw : V), vs = [.ref np, .ref sa, .int x, bad, nw] ∧ NoT B ∧ Same B H ∧ LamX.Tabs (T30 Pt Pm) H ∧ NetAt C CN B np n ∧ B sa = some (.tup (st.map V.int)) ∧ StOk n st ∧ inR (frm n.fs n.en).w x = true ∧ Fit30 n st x ∧ BadW B (frm n.fs n.en).w bad ∧ BadS B n nw ∧ nw ≠ .non ∧ ∀ H', Q (.bl true) H'
section
variable {P : Program} {w : World} {K : PySem.W.Frag} {mg : Str → Option Value} {base : Heap}
theorem sc__law_machine_right : FnScope ["_law_house", "_law_stand", "_law_entry", "_law_bad", "_law_nowhere", "_law_out", "_law_before", "_law_k", "_law_machine"] ["_law_house", "_law_stand", "_law_entry", "_law_bad", "_law_nowhere"] (defScope s__law_machine_right) := ⟨rfl, rfl, rfl, by decide +kernel, rfl, by decide +kernel, by decide +kernel⟩
theorem ok_machine_right {f : Addr} {fd : FuncData} {C CN CM CE CB CU CT CN9 c Pt Pm gT : Addr} {fdT : FuncData} (TM : MTxt K mg CM) (F : FunC K "_law_machine_right" s__law_machine_right f fd c) (z : Zs mg) (XX : Errs30 K mg CE CB CU CN9 CT) (EC : PySem.ErrX.ErrC K mg "Unfit" CU) (TB : LamX.TabB base mg c Pm) (nP : Pt ≠ Pm) (FT : Fun K "_law_said" "_law_said" s__law_said gT fdT) (gm : mg "_law_said" = some (.ref gT)) (bT : Binds K fdT ["_law_deed"] []) (c_Machine_2 : CalC P w K mg base 6 "Machine" CM ["self", "net", "state"] [] (spMInit C CN CM)) (c_MachineX : CalCX P w K mg base 6 "Machine" CM ["self", "net", "state"] [] (spMInitX K C CN CM CB)) (x_turn : CalM P w K mg base 9 CM "turn" ["self", "word"] (spTurnM C CN CM)) (xx_turn : CalMX P w K mg base 9 CM "turn" ["self", "word"] (spTurnX K C CN CM CU)) (xk_turn : CalMXK P w K mg base 9 CM "turn" ["self", "word"] ["word"] (fun vs zs => vs ++ zs) (spTurnX K C CN CM CU)) (x_state : CalM P w K mg base 1 CM "state" ["self"] (spStateM C CN CM)) (x_turns : CalM P w K mg base 1 CM "turns" ["self"] (spTurnsM C CN CM)) (x_numbers : CalM P w K mg base 1 CM "numbers" ["self"] (spNumbersM C CN CM)) (x_overs : CalM P w K mg base 1 CM "overs" ["self"] (spOversM C CN CM)) (x_went : CalM P w K mg base 1 CM "went" ["self"] (spWentM C CN CM)) (c_run : Cal P w K mg base 9 "run" ["net", "words", "state"] (spRun C CN)) : FnOk P w K mg base CX0 12 f fd ["_law_house", "_law_stand", "_law_entry", "_law_bad", "_law_nowhere"] (sp30MR Pt Pm C CN) := by
  obtain ⟨cdg, GT⟩ := got_of (Ng := ["_law_deed", "_law_found", "e", "_law_marks"]) FT gm bT sc__law_said rfl (.inl rfl)
  refine F.ok sc__law_machine_right (fun vs H Q E h => ?_) (fun A outer s H vs Q E hr h => ?_)
  · obtain ⟨B, np, sa, n, st, x, bad, nw, rfl, _⟩ := h
    rfl
  · obtain ⟨B, np, sa, n, st, x, bad, nw, rfl, nb, BS, T0, hn, hsa, so, xin, ⟨ro2, ro1⟩, hbad, hnw, nn, q⟩ := h
    refine ⟨_, (pss_cons (ps_set (i := 8) sc__law_machine_right.nd rfl (.inr rfl) (pe_calc c_Machine_2 hr (pa_cons (pv 0) (pa_cons (pv 1) pa_nil))))
      (pss_cons (ps_set (i := 5) sc__law_machine_right.nd rfl (.inl rfl) (pe_calm (pv 8) TM.cl x_turn hr (pa_cons (pv 2) pa_nil)))
      (pss_cons (ps_set (i := 6) sc__law_machine_right.nd rfl (.inl rfl) (pe_tup (pa_cons (pe_calm0 (pv 8) TM.cl x_state hr) (pa_cons (pe_calm0 (pv 8) TM.cl x_turns hr) (pa_cons (pe_calm0 (pv 8) TM.cl x_numbers hr) (pa_cons (pe_calm0 (pv 8) TM.cl x_overs hr) (pa_cons (pe_calm0 (pv 8) TM.cl x_went hr) pa_nil)))))))
      (pss_cons (ps_for PassesOwn.never rfl (pi_range1 (by rfl) z.range (pa_cons pe_int pa_nil)) (pg_name (i := 7) sc__law_machine_right.nd rfl (.inl rfl)) (pss_cons (ps_if (pt_cmpR (op_neD hr.units) (pe_lamS (T := T30 Pt Pm) (t := fun E => tMeth CM "turn" (spTurnX K C CN CM CU) [] E (tVar 8) (tCons (tVar 3) tNil)) (k := 9) (L := LamX.lamS_by (by show LamX.lamSB (defScope s__law_machine_right) _ = true; decide +kernel)) GT (said_gives XX EC z.isinstance hr) TB hr (fun E A out s H fl cd rm => by exact (pe_calmxL (pv 8) TM.cl xx_turn rm takesLam (pa_cons (pv 3) pa_nil))) (hm := List.mem_cons_of_mem _ List.mem_cons_self) (hu := hu_mr nP)) (pe_tup (pa_cons pe_str (pa_cons pe_int pa_nil))) (nomark _)) (pss_one (ps_ret pe_bl)) pss_nil)
      (pss_one (ps_if (pt_cmpR (op_neD hr.units) (pe_tup (pa_cons (pe_calm0 (pv 8) TM.cl x_state hr) (pa_cons (pe_calm0 (pv 8) TM.cl x_turns hr) (pa_cons (pe_calm0 (pv 8) TM.cl x_numbers hr) (pa_cons (pe_calm0 (pv 8) TM.cl x_overs hr) (pa_cons (pe_calm0 (pv 8) TM.cl x_went hr) pa_nil)))))) (pv 6) (nomark _)) (pss_one (ps_ret pe_bl)) pss_nil))))
      (pss_cons (ps_if (pt_cmpR (op_neD hr.units) (pe_lamS (T := T30 Pt Pm) (t := fun E => tMake CM (spMInitX K C CN CM CB) [] E (tCons (tVar 0) (tCons (tVar 4) tNil))) (k := 9) (L := LamX.lamS_by (by show LamX.lamSB (defScope s__law_machine_right) _ = true; decide +kernel)) GT (said_gives XX EC z.isinstance hr) TB hr (fun E A out s H fl cd rm => by exact (pe_calcX c_MachineX rm takesLam (pa_cons (pv 0) (pa_cons (pv 4) pa_nil)))) (hm := List.mem_cons_of_mem _ List.mem_cons_self) (hu := hu_mr nP)) (pe_tup (pa_cons pe_str (pa_cons pe_int pa_nil))) (nomark _)) (pss_one (ps_ret pe_bl)) pss_nil)
      (pss_cons (ps_if (pt_cmpR (op_neD hr.units) (pe_lamS (T := T30 Pt Pm) (t := fun E => tMethKE CM "turn" (["word"] : List Str).length (spTurnX K C CN CM CU) (fun vs zs => vs ++ zs) E (tVar 8) (tCons (tVar 3) tNil)) (k := 9) (L := LamX.lamS_by (by show LamX.lamSB (defScope s__law_machine_right) _ = true; decide +kernel)) GT (said_gives XX EC z.isinstance hr) TB hr (fun E A out s H fl cd rm => by exact (pe_calmkxL (pv 8) TM.cl xk_turn rm takesLam (pk_cons (pv 3) pk_nil))) (hm := List.mem_cons_of_mem _ List.mem_cons_self) (hu := hu_mr nP)) (pe_tup (pa_cons pe_str (pa_cons pe_int pa_nil))) (nomark _)) (pss_one (ps_ret pe_bl)) pss_nil)
      (pss_one (ps_ret (pe_and (pe_cmpR op_eq (pe_calm (pv 8) TM.cl x_turn hr (pa_cons (pv 2) pa_nil)) (pe_ix ix_list (pe_cal c_run hr (pa_cons (pv 0) (pa_cons (pe_lst (pa_cons (pv 2) (pa_cons (pv 2) pa_nil))) (pa_cons (pv 1) pa_nil)))) pe_int (fun _ _ => rfl)) (nomark _)) (pe_one (pe_cmpR op_eq (pv 5) (pe_ix ix_list (pe_cal c_run hr (pa_cons (pv 0) (pa_cons (pe_lst (pa_cons (pv 2) pa_nil)) (pa_cons (pv 1) pa_nil)))) pe_int (fun _ _ => rfl)) (nomark _)))))))))))), ?_⟩
    have numok : NumOk n x st := ro1.2 0 x rfl
    refine ⟨_, rfl, _, rfl, fun m dx hm0 hdx ne => ?_⟩
    have sM := make_same (C := CM) hm0 hdx ne
    refine ⟨m, dx, np, n, _, st, B, H, rfl, upd_same, hm0, BS, sM, hn, .inr ⟨sa, rfl, BS _ _ hsa, so⟩, fun pl H1 hM _ s1 => ⟨rfl, ?_⟩⟩
    have M0 := hM fun y => y = pl
    have apl : ∀ (G : Hp) hist, MachAt C CN CM (fun y => y = pl) B G m pl n st hist → ∀ y, y = pl → ∃ ys, G y = some (.lst ys) := fun G hist M y e => by
      rw [e]
      exact M.lst
    have T1 := LamX.Tabs.ext T0 s1
    obtain ⟨dx0, fs0, np0, pv0, b0⟩ := id M0
    have hls : (stOf st []).length = n.holds.length := so.len
    refine ⟨_, rfl, m, dx0, _, rfl, b0.ob, ml_no (by decide +kernel), _, rfl, fun y => y = pl, B, m, pl, n, st, [], x, rfl, M0, rfl, apl _ _ M0, xin, hls, numok, by show 0 ≤ 2000; decide, fun H2 sb2 M1 => ?_⟩
    obtain ⟨ypl, hpl1⟩ := M0.lst
    have T2 := tabs_but T1 sb2 hpl1
    have hls1 : (stOf st [trn n x st]).length = n.holds.length := List.length_map ..
    have numok2 : NumOk n x (stOf st [trn n x st]) := ro2.2 1 x rfl
    replace M1 : MachAt C CN CM (fun y => y = pl) B H2 m pl n st [trn n x st] := M1
    have BS2 := M1.bs
    have eO : (n.nums x (stOf st [])).getD n.out 0 = (n.nums x st).getD n.out 0 := rfl
    rw [eO]
    clear sM hM s1 M0 T0 T1 sb2 hpl1 b0 numok hls eO BS hm0 hdx
    obtain ⟨hist, eh⟩ : ∃ h, h = [trn n x st] := ⟨_, rfl⟩
    rw [← eh] at M1 hls1 numok2
    obtain ⟨dx, fs1, np1, pv1, b1⟩ := id M1
    refine ⟨_, rfl, m, dx, _, rfl, b1.ob, ml_no (by decide +kernel), _, _, m, pl, n, st, hist, rfl, M1, fun ta1 h_ta1 => ?_⟩
    refine ⟨_, rfl, m, dx, _, rfl, b1.ob, ml_no (by decide +kernel), _, _, m, pl, n, st, hist, rfl, M1, ?_⟩
    refine ⟨_, rfl, m, dx, _, rfl, b1.ob, ml_no (by decide +kernel), _, _, m, pl, n, st, hist, rfl, M1, fun la1 J11 _ j11 h_la1 => ?_⟩
    refine ⟨_, rfl, m, dx, _, rfl, (j11 _ _ b1.ob), ml_no (by decide +kernel), _, _, m, pl, n, st, hist, rfl, M1.same j11, fun oa1 J21 _ j21 h_oa1 => ?_⟩
    refine ⟨_, rfl, m, dx, _, rfl, (j21 _ _ (j11 _ _ b1.ob)), ml_no (by decide +kernel), _, _, m, pl, n, st, hist, rfl, (M1.same j11).same j21, (by rw [eh]; show 1 ≤ 1200; decide), fun wa1 J31 _ j31 h_wa1 => ⟨(by show 5 ≤ sizeLine; decide), fun bp1 hbp1 => ?_⟩⟩
    generalize hJ41 : upd _ bp1 _ = J41
    obtain ⟨j41, h_bp1⟩ := upd_gen hJ41 hbp1
    have jj1 := (j11.trans j21).trans (j31.trans j41)
    have SN1 : Snap J41 bp1 n st hist := ⟨ta1, la1, oa1, wa1, h_bp1, jj1 _ _ h_ta1, j41 _ _ (j31 _ _ (j21 _ _ h_la1)), j41 _ _ (j31 _ _ h_oa1), h_wa1.same j41⟩
    have T3 := LamX.Tabs.ext T2 jj1
    refine ⟨2, rfl, by decide, by decide, ?_⟩
    refine for_it walk_range (fun i σ G => ∃ y : Option V, σ = [some (.ref np), some (.ref sa), some (.int x), some bad, some nw, some (.int ((n.nums x st).getD n.out 0)), some (.ref bp1), y, some (.ref m)] ∧ Same B G ∧ LamX.Tabs (T30 Pt Pm) G ∧ MachAt C CN CM (fun y => y = pl) B G m pl n st hist ∧ Snap G bp1 n st hist) ⟨none, rfl, BS2.trans jj1, T3, M1.same jj1, SN1⟩ (fun _ _ _ _ _ => trivial) (fun i v σ G G' hi hP hY => ?_) (fun σ G hP => ?_)
    · obtain ⟨y, rfl, BG, TG, MG, SG⟩ := hP
      obtain ⟨rfl, rfl⟩ := hY
      refine ⟨TG, fun K1 e1 U1 E' Q' _ hu => ?_⟩
      have MG1 := MG.ext nb e1
      have BG1 := nb.ext BG e1
      have SG1 := SG.ext e1
      obtain ⟨dx3, fs3, np3, pv3, b3⟩ := id MG1
      refine ⟨_, rfl, m, dx3, _, rfl, b3.ob, ml_no (by decide +kernel), _, rfl, fun y => y = pl, B, m, pl, n, st, hist, bad, rfl, MG1, rfl, apl _ _ MG1, hls1, (by rw [eh]; show 1 ≤ 2000; decide), .inr ⟨(hbad.same BG1).no, fun K2 d s2 hd => ?_⟩⟩
      refine hu d 0 _ upd_same fun t K3 s3 h_t => ?_
      refine ⟨(by show 2 ≤ sizeLine; decide), fun u1 hu1 => ?_⟩
      generalize hGu1 : upd _ u1 _ = Gu1
      obtain ⟨su1, h_u1⟩ := upd_gen hGu1 hu1
      refine ⟨.tuple [.str "word", .int 0], .tuple [.str "word", .int 0], .tup (SqT.of (su1 _ _ h_t)) (.cons (.str _) (.cons (.int _) .nil)), .tup (SqT.of h_u1) (.cons (.str _) (.cons (.int _) .nil)), (by decide +kernel), (by decide +kernel), _, rfl, ?_⟩
      refine iteC (c := !PyData.eqv (.tuple [.str "word", .int 0]) (.tuple [.str "word", .int 0])) (d := false) (by decide +kernel) (iteF ?_)
      have SS := s2.trans ((same_new hd).trans (s3.trans su1))
      have MG2 := MG1.same SS
      obtain ⟨dx4, fs4, np4, pv4, b4⟩ := id MG2
      refine ⟨_, rfl, m, dx4, _, rfl, b4.ob, ml_no (by decide +kernel), _, _, m, pl, n, st, hist, rfl, MG2, fun ta2 h_ta2 => ?_⟩
      refine ⟨_, rfl, m, dx4, _, rfl, b4.ob, ml_no (by decide +kernel), _, _, m, pl, n, st, hist, rfl, MG2, ?_⟩
      refine ⟨_, rfl, m, dx4, _, rfl, b4.ob, ml_no (by decide +kernel), _, _, m, pl, n, st, hist, rfl, MG2, fun la2 J12 _ j12 h_la2 => ?_⟩
      refine ⟨_, rfl, m, dx4, _, rfl, (j12 _ _ b4.ob), ml_no (by decide +kernel), _, _, m, pl, n, st, hist, rfl, MG2.same j12, fun oa2 J22 _ j22 h_oa2 => ?_⟩
      refine ⟨_, rfl, m, dx4, _, rfl, (j22 _ _ (j12 _ _ b4.ob)), ml_no (by decide +kernel), _, _, m, pl, n, st, hist, rfl, (MG2.same j12).same j22, (by rw [eh]; show 1 ≤ 1200; decide), fun wa2 J32 _ j32 h_wa2 => ⟨(by show 5 ≤ sizeLine; decide), fun bp2 hbp2 => ?_⟩⟩
      generalize hJ42 : upd _ bp2 _ = J42
      obtain ⟨j42, h_bp2⟩ := upd_gen hJ42 hbp2
      have jj2 := (j12.trans j22).trans (j32.trans j42)
      have SN2 : Snap J42 bp2 n st hist := ⟨ta2, la2, oa2, wa2, h_bp2, jj2 _ _ h_ta2, j42 _ _ (j32 _ _ (j22 _ _ h_la2)), j42 _ _ (j32 _ _ h_oa2), h_wa2.same j42⟩
      refine ⟨_, rfl, snapD n st hist, snapD n st hist, SN2.dp, ((SG1.same SS).same jj2).dp, snap_shaped _ _ _, snap_shaped _ _ _, _, rfl, ?_⟩
      rw [snap_eq]
      exact iteF ⟨_, rfl, (BG1.trans SS).trans jj2, LamX.Tabs.ext U1 (SS.trans jj2), MG2.same jj2, (SG1.same SS).same jj2⟩
    · obtain ⟨y, rfl, BG, TG, MG, SG⟩ := hP
      refine ⟨TG, fun K1 e1 U1 E' Q' hb _ => ?_⟩
      have MG1 := MG.ext nb e1
      have BG1 := nb.ext BG e1
      refine ⟨_, rfl, _, rfl, fun x2 dx2 hx2 hdx2 ne2 => ?_⟩
      have sM2 := make_same (C := CM) hx2 hdx2 ne2
      have BM := BG1.trans sM2
      refine ⟨x2, dx2, np, n, nw, rfl, upd_same, hn.same BM, nn, (hnw.same BM).no, fun K2 s2 => ?_⟩
      refine hb K2 fun t K3 s3 h_t => ?_
      refine ⟨(by show 2 ≤ sizeLine; decide), fun u2 hu2 => ?_⟩
      generalize hGu2 : upd _ u2 _ = Gu2
      obtain ⟨su2, h_u2⟩ := upd_gen hGu2 hu2
      refine ⟨.tuple [.str "state", .int 0], .tuple [.str "state", .int 0], .tup (SqT.of (su2 _ _ h_t)) (.cons (.str _) (.cons (.int _) .nil)), .tup (SqT.of h_u2) (.cons (.str _) (.cons (.int _) .nil)), (by decide +kernel), (by decide +kernel), _, rfl, ?_⟩
      refine iteC (c := !PyData.eqv (.tuple [.str "state", .int 0]) (.tuple [.str "state", .int 0])) (d := false) (by decide +kernel) (iteF ?_)
      have SS := sM2.trans (s2.trans (s3.trans su2))
      have MG2 := MG1.same SS
      have BG2 := BG1.trans SS
      refine ⟨LamX.Tabs.ext U1 SS, fun L1 e3 U3 E2 Q2 _ hu => ?_⟩
      have MG3 := MG2.ext nb e3
      have BG3 := nb.ext BG2 e3
      obtain ⟨dx5, fs5, np5, pv5, b5⟩ := id MG3
      refine ⟨_, rfl, m, dx5, _, rfl, b5.ob, ml_no (by decide +kernel), _, rfl, rfl, fun y => y = pl, B, m, pl, n, st, hist, bad, rfl, MG3, rfl, apl _ _ MG3, hls1, (by rw [eh]; show 1 ≤ 2000; decide), .inr ⟨(hbad.same BG3).no, fun L2 d s4 hd => ?_⟩⟩
      refine hu d 0 _ upd_same fun t2 L3 s5 h_t2 => ?_
      refine ⟨(by show 2 ≤ sizeLine; decide), fun u3 hu3 => ?_⟩
      generalize hGu3 : upd _ u3 _ = Gu3
      obtain ⟨su3, h_u3⟩ := upd_gen hGu3 hu3
      refine ⟨.tuple [.str "word", .int 0], .tuple [.str "word", .int 0], .tup (SqT.of (su3 _ _ h_t2)) (.cons (.str _) (.cons (.int _) .nil)), .tup (SqT.of h_u3) (.cons (.str _) (.cons (.int _) .nil)), (by decide +kernel), (by decide +kernel), _, rfl, ?_⟩
      refine iteC (c := !PyData.eqv (.tuple [.str "word", .int 0]) (.tuple [.str "word", .int 0])) (d := false) (by decide +kernel) (iteF ?_)
      have S3 := s4.trans ((same_new hd).trans (s5.trans su3))
      have MG4 := MG3.same S3
      have BG4 := BG3.trans S3
      obtain ⟨dx6, fs6, np6, pv6, b6⟩ := id MG4
      subst eh
      refine ⟨_, rfl, m, dx6, _, rfl, b6.ob, ml_no (by decide +kernel), _, rfl, fun y => y = pl, B, m, pl, n, st, [trn n x st], x, rfl, MG4, rfl, apl _ _ MG4, xin, hls1, numok2, by show 1 ≤ 2000; decide, fun H9 sb9 M9 => ?_⟩
      have BS9 := M9.bs
      refine ⟨_, rfl, _, rfl, _, rfl, (by show 2 ≤ sizeLine; decide), fun wl hwl => ?_⟩
      generalize hGw : upd _ wl _ = G10
      obtain ⟨s10, h_wl⟩ := upd_gen hGw hwl
      have B10 := BS9.trans s10
      refine ⟨_, rfl, np, wl, n, [x, x], _, st, rfl, hn.same B10, h_wl, (fun y hy => by
        simp only [List.mem_cons, List.mem_nil_iff, or_false] at hy
        rcases hy with rfl | rfl <;> exact xin), .inr ⟨sa, rfl, B10 _ _ hsa, so⟩, so.len, ro2, fun l1 H10 hl1 s11 h_l1 => ?_⟩
      refine ⟨l1, _, 1, .int ((n.nums x (n.behind (n.nums x st))).getD n.out 0), rfl, rfl, SqL.of h_l1, atI_nat (j := 1) rfl, ?_⟩
      refine ⟨rfl, _, rfl, iteC (d := true) (decide_eq_true rfl) (iteT ?_)⟩
      have B11 := B10.trans s11
      refine ⟨_, rfl, _, rfl, _, rfl, (by show 1 ≤ sizeLine; decide), fun wl2 hwl2 => ?_⟩
      generalize hGw2 : upd _ wl2 _ = G12
      obtain ⟨s12, h_wl2⟩ := upd_gen hGw2 hwl2
      have B12 := B11.trans s12
      refine ⟨_, rfl, np, wl2, n, [x], _, st, rfl, hn.same B12, h_wl2, (fun y hy => by
        simp only [List.mem_cons, List.mem_nil_iff, or_false] at hy
        rcases hy with rfl; exact xin), .inr ⟨sa, rfl, B12 _ _ hsa, so⟩, so.len, ro1, fun l2 H13 hl2 s13 h_l2 => ?_⟩
      refine ⟨l2, _, 0, .int ((n.nums x st).getD n.out 0), rfl, rfl, SqL.of h_l2, atI_nat (j := 0) rfl, ?_⟩
      exact ⟨rfl, qt rfl (q _)⟩
end
end E1

namespace E1
open PySem PySem.Spec PyProof.Rows L2
def spLMade (C CN : Addr) : Sp := fun vs H Q _ => ∃ (hp : Addr) (n : NetP), vs = [.ref hp] ∧ PartsAt H hp n ∧ NetOk n ∧ ∀ p H', Same H H' → NetAt C CN H' p n → Q (.ref p) H'
theorem fat_one {C : Addr} {H : Hp} {p : Addr} {f : FormP} (h : FAt C H p f) : FsAt C H [.ref p] [f] := .cons h .nil
section
variable {P : Program} {w : World} {K : PySem.W.Frag} {mg : Str → Option Value} {base : Heap}
theorem sc__law_made : FnScope ["_law_house", "_law_forms", "_law_enters", "_law_rows", "_law_holds", "_law_out", "_law_one"] ["_law_house"] (defScope s__law_made) := ⟨rfl, rfl, rfl, by decide +kernel, rfl, by decide +kernel, by decide +kernel⟩
theorem ok__law_made {f : Addr} {fd : FuncData} {C CN : Addr} (F : Fun K "_law_made" "_law_made" s__law_made f fd) (z : Zs mg) (c_Form_4 : CalC P w K mg base 3 "Form" C ["self", "width", "point", "manner", "ends"] [] (spInit C)) (c_Net_5 : CalC P w K mg base 6 "Net" CN ["self", "forms", "enters", "rows", "holds", "out"] [] (spNetInit C CN)) : FnOk P w K mg base CX0 8 f fd ["_law_house"] (spLMade C CN) := by
  refine F.ok sc__law_made (fun vs H Q E h => ?_) (fun cdv A outer s H vs Q E hr h => ?_)
  · obtain ⟨hp, n, rfl, _⟩ := h
    rfl
  · obtain ⟨hp, n, rfl, ⟨fa, ra, ha, hhp, ⟨fv, hfa, tf⟩, ⟨rv, hra, tr⟩, ⟨hv, hha, th⟩⟩, ok, q⟩ := h
    refine ⟨_, (pss_cons (ps_asg (pv 0) (pg_tup (by rfl) (pgs_cons (pg_name (i := 1) sc__law_made.nd rfl (.inl rfl)) (pgs_cons (pg_name (i := 2) sc__law_made.nd rfl (.inl rfl)) (pgs_cons (pg_name (i := 3) sc__law_made.nd rfl (.inl rfl)) (pgs_cons (pg_name (i := 4) sc__law_made.nd rfl (.inl rfl)) (pgs_cons (pg_name (i := 5) sc__law_made.nd rfl (.inl rfl)) pgs_nil)))))))
      (pss_one (ps_ret (pe_calc c_Net_5 hr (pa_cons (pe_lc (own := [("_law_one", 6)]) (g := gName 6) (tt := tYes) (te := tMake C (spInit C) [] E0 (tCons (tOp (rIxT K) (tVar 6) (tC (.int 0))) (tCons (tOp (rIxT K) (tVar 6) (tC (.int 1))) (tCons (tOp (rIxT K) (tVar 6) (tC (.int 2))) (tCons (tOp (rIxT K) (tVar 6) (tC (.int 3))) tNil))))) (by rfl) sc__law_made.nd (pi_list (pv 1)) (blkOk_by (own := [("_law_one", 6)]) (N := ["_law_house", "_law_forms", "_law_enters", "_law_rows", "_law_holds", "_law_out", "_law_one"]) (sc := defScope s__law_made) (by decide +kernel)) (fun _ _ _ _ _ => by exact (pg_name (i := 6) sc__law_made.nd rfl (.inl rfl))) (fun _ _ _ _ _ => by exact pts_nil) (fun _ _ _ _ _ => by exact (pe_calc c_Form_4 hr (pa_cons (pe_ix ix_tup (pv 6) pe_int (fun _ _ => rfl)) (pa_cons (pe_ix ix_tup (pv 6) pe_int (fun _ _ => rfl)) (pa_cons (pe_ix ix_tup (pv 6) pe_int (fun _ _ => rfl)) (pa_cons (pe_ix ix_tup (pv 6) pe_int (fun _ _ => rfl)) pa_nil))))))) (pa_cons (pv 2) (pa_cons (pe_callTy call_list_of (by rfl) z.list (by decide +kernel) (pa_cons (pv 3) pa_nil)) (pa_cons (pe_callTy call_list_of (by rfl) z.list (by decide +kernel) (pa_cons (pv 4) pa_nil)) (pa_cons (pv 5) pa_nil))))))))), ?_⟩
    have lf := tf.len
    rw [List.length_map] at lf
    have f12 := ok.f2
    refine ⟨_, rfl, hp, _, rfl, SqT.of hhp, rfl, _, _, rfl, _, _, rfl, _, _, rfl, _, _, rfl, _, _, rfl, rfl, ?_⟩
    refine ⟨_, rfl, fa, rfl, ⟨_, SqL.of hfa⟩, fun D hD => ?_⟩
    refine lc_it (walk_list (K := K) (a := fa) (xs := fv)) (fun i G => Same H G ∧ ∃ ws, G D = some (.lst ws) ∧ FsAt C G ws (n.fs.take i)) ⟨same_new hD, [], upd_same, .nil⟩ (fun i G _ hP => SqL.of (hP.1 _ _ hfa)) (fun i x G G' hi hP hY => ?_) (fun G hP => ?_)
    · obtain ⟨s1, ws, hd, fw⟩ := hP
      obtain ⟨rfl, hx⟩ := hY
      obtain ⟨p, xs, rfl, exs, hp'⟩ := tf.get hx
      rw [List.getElem?_map] at exs
      obtain ⟨f, ef, rfl⟩ := Option.map_eq_some_iff.mp exs
      have hp2 := s1 _ _ hp'
      have fo := ok.fo f (List.mem_of_getElem? ef)
      have lw := fw.len
      rw [List.length_take] at lw
      refine ⟨rfl, _, rfl, p, _, 0, wV f.w, rfl, rfl, SqT.of hp2, a0, _, rfl, p, _, 1, .int f.pt, rfl, rfl, SqT.of hp2, a1, _, rfl, p, _, 2, .str f.m.str, rfl, rfl, SqT.of hp2, a2, _, rfl, p, _, 3, .str (endS f.st), rfl, rfl, SqT.of hp2, atI_nat (j := 3) rfl, fun x dx hx0 hdx ne => ?_⟩
      have sM := make_same (C := C) hx0 hdx ne
      refine ⟨x, dx, f.w, f.pt, f.m, f.st, rfl, fo.wo, fo.p0, fo.p1, upd_same, fun H2 hF fr1 fr2 => ⟨rfl, ?_⟩⟩
      have S2 : Same G' H2 := fun b o e => fr1 b o (ne_of_none e hx0) (sM _ _ e)
      have hd2 := S2 _ _ hd
      refine ⟨ws, hd2, sl_lt (by omega), fun b o e => ?_, _, upd_same, ?_⟩
      · rw [upd_ne (ne_of_none e hD)]
        exact S2 _ _ (s1 _ _ e)
      · rw [List.take_add_one, ef]
        exact ((fw.same S2).app (fat_one hF)).butL SameBut.upd hd2
    obtain ⟨s1, ws, hd, fw⟩ := hP
    rw [lf, List.take_length] at fw
    refine ⟨_, rfl, _, rfl, _, _, rfl, .inl (SqL.of (s1 _ _ hra)), fun r2 hr2 => ?_⟩
    generalize hG : upd _ r2 _ = G2
    obtain ⟨s2, h_r2⟩ := upd_gen hG hr2
    have S2 := s1.trans s2
    refine ⟨_, rfl, _, _, rfl, .inl (SqL.of (S2 _ _ hha)), fun h2 hh2 => ?_⟩
    generalize hG3 : upd _ h2 _ = G3
    obtain ⟨s3, h_h2⟩ := upd_gen hG3 hh2
    have S3 := S2.trans s3
    refine ⟨_, rfl, fun x dx hx0 hdx ne => ?_⟩
    have sM := make_same (C := CN) hx0 hdx ne
    have S4 := S3.trans sM
    refine ⟨x, dx, D, r2, h2, n, ws, rv, hv, rfl, upd_same, sM _ _ (s3 _ _ (s2 _ _ hd)), ((fw.same s2).same s3).same sM, sM _ _ (s3 _ _ h_r2), tr.same S4, sM _ _ h_h2, th.same S4, ok, fun H2 hN fr1 => ⟨rfl, q x H2 (fun b o e => fr1 b o (ne_of_none (S3 _ _ e) hx0) (S4 _ _ e)) hN⟩⟩
end

def spLaw30 (K : PySem.W.Frag) (Pt Pm : Addr) : Sp := fun vs H Q _ => ∃ (a : Addr) (ns : List Int), vs = [.ref a] ∧ SqL K H a (ns.map V.int) ∧ ns.length ≤ 63 ∧ LamX.Tabs (T30 Pt Pm) H ∧ ∀ H', Q (.bl true) H'
theorem word_lay (k : Int) : PyData.canLay0 (.tuple [.str "word", .int k]) = true := by
  first
    | rfl
    | (simp [PyData.canLay0, PyData.canLayAll0]; decide +kernel)
theorem word_shaped (k : Int) : SeqAt.shaped (.tuple [.str "word", .int k]) = true := by
  unfold SeqAt.shaped
  rw [show PyData.canLay0 (.tuple [.str "word", .int k]) = true from word_lay k, Bool.true_and, decide_eq_true_eq]
  simp [PyData.depth, PyData.depthAll]
theorem word_eqv (k : Int) : PyData.eqv (.tuple [.str "word", .int k]) (.tuple [.str "word", .int k]) = true := SeqAt.eqv_refl _ (word_lay k)
/-- what the law holds in hand -/
structure Bag30 (B : Hp) (T : List (Addr × Str)) (n : NetP) (a sa el pl : Addr) (st xs : List Int) (p0 p1 : Int) (bad nw : V) (c : Int) (H : Hp) : Prop where
  bs : Same B H
  t : LamX.Tabs T H
  w : WellAt H a c
  s : H sa = some (.tup (st.map V.int))
  e : H el = some (.lst (xs.map V.int))
  p : H pl = some (.lst [.int p0, .int p1])
  ne : el ≠ a
  np : pl ≠ a
  b : BadW H (frm n.fs n.en).w bad
  nw : BadS H n nw
section
variable {B : Hp} {T : List (Addr × Str)} {n : NetP} {a sa el pl : Addr} {st xs : List Int} {p0 p1 : Int} {bad nw : V} {c c' : Int} {H H' : Hp}
theorem Bag30.same (g : Bag30 B T n a sa el pl st xs p0 p1 bad nw c H) (s : Same H H') : Bag30 B T n a sa el pl st xs p0 p1 bad nw c H' :=
  ⟨g.bs.trans s, LamX.Tabs.ext g.t s, g.w.same s, s _ _ g.s, s _ _ g.e, s _ _ g.p, g.ne, g.np, g.b.same s, g.nw.same s⟩
theorem Bag30.ext (g : Bag30 B T n a sa el pl st xs p0 p1 bad nw c H) (nb : NoT B) (s : LamX.ExtN H H') (t : LamX.Tabs T H') : Bag30 B T n a sa el pl st xs p0 p1 bad nw c H' := by
  obtain ⟨x, y, z, hw, r⟩ := g.w
  exact ⟨nb.ext g.bs s, t, ⟨x, y, z, s _ _ hw (fun _ z => nomatch z), r⟩, s _ _ g.s (fun _ z => nomatch z), s _ _ g.e (fun _ z => nomatch z), s _ _ g.p (fun _ z => nomatch z), g.ne, g.np, g.b.ext s, g.nw.ext s⟩
theorem Bag30.but (g : Bag30 B T n a sa el pl st xs p0 p1 bad nw c H) (ba : B a = none) (s : SameBut a H H') (w : WellAt H' a c') : Bag30 B T n a sa el pl st xs p0 p1 bad nw c' H' := by
  obtain ⟨ys, hy⟩ := g.w.lst
  obtain ⟨ys2, hy2⟩ := w.lst
  exact ⟨same_but g.bs s ba, tabs_but g.t s hy, w, s _ _ (ne_of g.s hy (fun z => nomatch z)) g.s, s _ _ g.ne g.e, s _ _ g.np g.p, g.ne, g.np, g.b.but s hy2, g.nw.but s hy hy2⟩
end
theorem two_sorted {r1 r2 : Int} {ns : List Int} (hp : ns.Perm [r1, r2]) (hw : ns.Pairwise (· ≤ ·)) : ∃ p0 p1, ns = [p0, p1] ∧ p0 ≤ p1 ∧ (p0 = r1 ∨ p0 = r2) ∧ (p1 = r1 ∨ p1 = r2) := by
  have hl := hp.length_eq
  match ns, hl, hp, hw with
  | [u, v], _, hp, hw =>
    have h1 : u ∈ [r1, r2] := hp.mem_iff.mp (by simp)
    have h2 : v ∈ [r1, r2] := hp.mem_iff.mp (by simp)
    simp only [List.mem_cons, List.mem_nil_iff, or_false] at h1 h2
    refine ⟨u, v, rfl, ?_, h1, h2⟩
    cases hw with
    | cons h _ => exact h v (by simp)
theorem bad_rows {K : PySem.W.Frag} {H : Hp} {w : Option Int} {xs : List Int} {p0 : Nat} {bad : V} {R : List V} (hp : p0 ≤ xs.length) (hx : ∀ x ∈ xs, inR w x = true) (hb : NoWord K H w bad) : BadAt K H w ((xs.map V.int).take p0 ++ bad :: R) p0 := by
  have lt : ((xs.map V.int).take p0).length = p0 := by rw [List.length_take, List.length_map]; omega
  refine ⟨⟨bad, by rw [List.getElem?_append_right (by omega), lt, Nat.sub_self]; rfl, hb⟩, fun j hj => ?_⟩
  rw [List.getElem?_append_left (by omega), List.getElem?_take, if_pos hj, List.getElem?_map]
  have jl : j < xs.length := by omega
  rw [List.getElem?_eq_getElem jl]
  exact ⟨xs[j], rfl, hx _ (List.getElem_mem jl)⟩
end E1

namespace E1
open PySem PySem.Spec PyProof.Rows L2
section
variable {P : Program} {w : World} {K : PySem.W.Frag} {mg : Str → Option Value} {base : Heap}
theorem sc_law : FnScope ["_law_script", "_law_parts", "_law_well_here", "_law_enters", "_law_places", "_law_bad", "_law_entries", "_law_entry", "_law_house", "_law_nowhere", "_law_rows", "_law_stand", "_law_k", "_law_hold"] ["_law_script"] (defScope s_law) := ⟨rfl, rfl, rfl, by decide +kernel, rfl, by decide +kernel, by decide +kernel⟩
theorem ok_law {f : Addr} {fd : FuncData} {C CN CM CE CB CU CT CN9 c Pt Pm gT : Addr} {fdT : FuncData} (F : FunC K "law" s_law f fd c) (z : Zs mg) (XX : Errs30 K mg CE CB CU CN9 CT) (EC : PySem.ErrX.ErrC K mg "Unfit" CU) (TB : LamX.TabB base mg c Pt) (nP : Pt ≠ Pm) (FT : Fun K "_law_said" "_law_said" s__law_said gT fdT) (gm : mg "_law_said" = some (.ref gT)) (bT : Binds K fdT ["_law_deed"] []) (c__law_cell_at : Cal P w K mg base 1 "_law_cell_at" ["_law_script", "_law_k"] (spCell K)) (c__law_well : Cal P w K mg base 1 "_law_well" ["_law_cell"] spWell) (c__law_draw : Cal P w K mg base 1 "_law_draw" ["_law_well_here", "_law_many"] spDraw) (c__law_net : Cal P w K mg base 3 "_law_net" ["_law_well_here"] spLNet) (c__law_made : Cal P w K mg base 8 "_law_made" ["_law_house"] (spLMade C CN)) (c__law_word : Cal P w K mg base 2 "_law_word" ["_law_well_here", "_law_form_here"] spLWord) (c__law_bad_word : Cal P w K mg base 2 "_law_bad_word" ["_law_well_here", "_law_form_here"] sp30Bad) (c__law_bad_state : Cal P w K mg base 3 "_law_bad_state" ["_law_well_here", "_law_parts", "_law_stand"] sp30BadS) (c__law_machine_right : Cal P w K mg base 12 "_law_machine_right" ["_law_house", "_law_stand", "_law_entry", "_law_bad", "_law_nowhere"] (sp30MR Pt Pm C CN)) (cx_turned : CalX P w K mg base 9 "turned" ["net", "state", "word"] [] (spTurnedX K C CN CU CB)) (cx_run_3 : CalX P w K mg base 9 "run" ["net", "words", "state"] [] (spRunX K C CN CU CB)) (cx_run_2 : CalX P w K mg base 9 "run" ["net", "words", "state"] [V.non] (spRunX K C CN CU CB)) (ck_run : CalXK P w K mg base 9 "run" ["net", "words", "state"] 0 ["state", "words", "net"] (fun vs zs => vs ++ zs.reverse) (spRunX K C CN CU CB)) : FnOk P w K mg base CX0 13 f fd ["_law_script"] (spLaw30 K Pt Pm) := by
  obtain ⟨cdg, GT⟩ := got_of (Ng := ["_law_deed", "_law_found", "e", "_law_marks"]) FT gm bT sc__law_said rfl (.inl rfl)
  refine F.ok sc_law (fun vs H Q E h => ?_) (fun A outer s H vs Q E hr h => ?_)
  · obtain ⟨a, ns, rfl, _⟩ := h
    rfl
  · obtain ⟨as, ns, rfl, hS, hlen, T0, q⟩ := h
    refine ⟨_, (pss_cons (ps_set (i := 1) sc_law.nd rfl (.inr rfl) (pe_cal c__law_net hr (pa_cons (pe_cal c__law_well hr (pa_cons (pe_cal c__law_cell_at hr (pa_cons (pv 0) (pa_cons pe_int pa_nil))) pa_nil)) pa_nil)))
      (pss_cons (ps_set (i := 8) sc_law.nd rfl (.inr rfl) (pe_cal c__law_made hr (pa_cons (pv 1) pa_nil)))
      (pss_cons (ps_set (i := 2) sc_law.nd rfl (.inr rfl) (pe_cal c__law_well hr (pa_cons (pe_cal c__law_cell_at hr (pa_cons (pv 0) (pa_cons pe_int pa_nil))) pa_nil)))
      (pss_cons (ps_set (i := 11) sc_law.nd rfl (.inr rfl) (pe_callTy call_tuple_of (by rfl) z.tuple (by decide +kernel) (pa_cons (pe_lc (own := [("_law_hold", 13)]) (g := gName 13) (tt := tYes) (te := (tCall spLWord [] E0 (tCons (tVar 2) (tCons (tOp (rIxL K) (tOp (rIxT K) (tVar 1) (tC (.int 0))) (tOp (rIxT K) (tVar 13) (tC (.int 0)))) tNil)))) (by rfl) sc_law.nd (pi_list (pe_ix ix_tup (pv 1) pe_int (fun _ _ => rfl))) (blkOk_by (own := [("_law_hold", 13)]) (N := ["_law_script", "_law_parts", "_law_well_here", "_law_enters", "_law_places", "_law_bad", "_law_entries", "_law_entry", "_law_house", "_law_nowhere", "_law_rows", "_law_stand", "_law_k", "_law_hold"]) (sc := defScope s_law) (by decide +kernel)) (fun _ _ _ _ _ => by exact (pg_name (i := 13) sc_law.nd rfl (.inl rfl))) (fun _ _ _ _ _ => by exact pts_nil) (fun _ _ _ _ _ => by exact (pe_cal c__law_word hr (pa_cons (pv 2) (pa_cons (pe_ix ix_list (pe_ix ix_tup (pv 1) pe_int (fun _ _ => rfl)) (pe_ix ix_tup (pv 13) pe_int (fun _ _ => rfl)) (fun _ _ => rfl)) pa_nil))))) pa_nil)))
      (pss_cons (ps_set (i := 3) sc_law.nd rfl (.inr rfl) (pe_ix ix_list (pe_ix ix_tup (pv 1) pe_int (fun _ _ => rfl)) (pe_ix ix_tup (pv 1) pe_int (fun _ _ => rfl)) (fun _ _ => rfl)))
      (pss_cons (ps_set (i := 9) sc_law.nd rfl (.inr rfl) (pe_cal c__law_bad_state hr (pa_cons (pv 2) (pa_cons (pv 1) (pa_cons (pv 11) pa_nil)))))
      (pss_cons (ps_set (i := 5) sc_law.nd rfl (.inr rfl) (pe_cal c__law_bad_word hr (pa_cons (pv 2) (pa_cons (pv 3) pa_nil))))
      (pss_cons (ps_set (i := 4) sc_law.nd rfl (.inl rfl) (pe_callB cr_sorted (by rfl) z.sorted (by decide +kernel) (pa_cons (pe_lst (pa_cons (pe_cal c__law_draw hr (pa_cons (pv 2) (pa_cons pe_int pa_nil))) (pa_cons (pe_cal c__law_draw hr (pa_cons (pv 2) (pa_cons pe_int pa_nil))) pa_nil))) pa_nil)))
      (pss_cons (ps_set (i := 6) sc_law.nd rfl (.inr rfl) (pe_lc (own := [("_law_k", 12)]) (g := gName 12) (tt := tYes) (te := (tCall spLWord [] E0 (tCons (tVar 2) (tCons (tVar 3) tNil)))) (by rfl) sc_law.nd (pi_range1 (by rfl) z.range (pa_cons (pe_op op_add (pe_ix ix_list (pv 4) pe_int (fun _ _ => rfl)) (pe_cal c__law_draw hr (pa_cons (pv 2) (pa_cons pe_int pa_nil)))) pa_nil)) (blkOk_by (own := [("_law_k", 12)]) (N := ["_law_script", "_law_parts", "_law_well_here", "_law_enters", "_law_places", "_law_bad", "_law_entries", "_law_entry", "_law_house", "_law_nowhere", "_law_rows", "_law_stand", "_law_k", "_law_hold"]) (sc := defScope s_law) (by decide +kernel)) (fun _ _ _ _ _ => by exact (pg_name (i := 12) sc_law.nd rfl (.inl rfl))) (fun _ _ _ _ _ => by exact pts_nil) (fun _ _ _ _ _ => by exact (pe_cal c__law_word hr (pa_cons (pv 2) (pa_cons (pv 3) pa_nil))))))
      (C8.pss_cut (ps_set (i := 7) sc_law.nd rfl (.inr rfl) (pe_cal c__law_word hr (pa_cons (pv 2) (pa_cons (pv 3) pa_nil))))
      (pss_cons (ps_if (pt_cmpR (op_neD hr.units) (pe_lamS (T := T30 Pt Pm) (t := fun E => tCall (spTurnedX K C CN CU CB) [] E (tCons (tVar 8) (tCons (tVar 9) (tCons (tVar 5) tNil)))) (k := 9) (L := LamX.lamS_by (by show LamX.lamSB (defScope s_law) _ = true; decide +kernel)) GT (said_gives XX EC z.isinstance hr) TB hr (fun E A out s H fl cd rm => by exact (pe_calxL cx_turned rm takesLam (pa_cons (pv 8) (pa_cons (pv 9) (pa_cons (pv 5) pa_nil))))) (hm := List.mem_cons_self) (hu := hu_law nP)) (pe_tup (pa_cons pe_str (pa_cons pe_int pa_nil))) (nomark _)) (pss_one (ps_ret pe_bl)) pss_nil)
      (pss_cons (ps_if (pt_cmpR (op_neD hr.units) (pe_lamS (T := T30 Pt Pm) (t := fun E => tCall (spTurnedX K C CN CU CB) [] E (tCons (tVar 8) (tCons (tVar 9) (tCons (tVar 7) tNil)))) (k := 9) (L := LamX.lamS_by (by show LamX.lamSB (defScope s_law) _ = true; decide +kernel)) GT (said_gives XX EC z.isinstance hr) TB hr (fun E A out s H fl cd rm => by exact (pe_calxL cx_turned rm takesLam (pa_cons (pv 8) (pa_cons (pv 9) (pa_cons (pv 7) pa_nil))))) (hm := List.mem_cons_self) (hu := hu_law nP)) (pe_tup (pa_cons pe_str (pa_cons pe_int pa_nil))) (nomark _)) (pss_one (ps_ret pe_bl)) pss_nil)
      (pss_cons (ps_if (pt_cmpR (op_neD hr.units) (pe_lamS (T := T30 Pt Pm) (t := fun E => tCall (spTurnedX K C CN CU CB) [] E (tCons (tVar 8) (tCons (tVar 11) (tCons (tVar 5) tNil)))) (k := 9) (L := LamX.lamS_by (by show LamX.lamSB (defScope s_law) _ = true; decide +kernel)) GT (said_gives XX EC z.isinstance hr) TB hr (fun E A out s H fl cd rm => by exact (pe_calxL cx_turned rm takesLam (pa_cons (pv 8) (pa_cons (pv 11) (pa_cons (pv 5) pa_nil))))) (hm := List.mem_cons_self) (hu := hu_law nP)) (pe_tup (pa_cons pe_str (pa_cons pe_int pa_nil))) (nomark _)) (pss_one (ps_ret pe_bl)) pss_nil)
      (pss_cons (ps_set (i := 10) sc_law.nd rfl (.inr rfl) (pe_op op_cat (pe_op op_cat (pe_slice sl_list (pv 6) po_none (po_some (pe_ix ix_list (pv 4) pe_int (fun _ _ => rfl)))) (pe_lst (pa_cons (pv 5) pa_nil))) (pe_slice sl_list (pv 6) (po_some (pe_ix ix_list (pv 4) pe_int (fun _ _ => rfl))) (po_some (pe_ix ix_list (pv 4) pe_int (fun _ _ => rfl))))))
      (pss_cons (ps_set (i := 10) sc_law.nd rfl (.inr rfl) (pe_op op_cat (pe_op op_cat (pv 10) (pe_lst (pa_cons (pe_cal c__law_bad_word hr (pa_cons (pv 2) (pa_cons (pv 3) pa_nil))) pa_nil))) (pe_slice sl_list (pv 6) (po_some (pe_ix ix_list (pv 4) pe_int (fun _ _ => rfl))) po_none)))
      (pss_cons (ps_if (pt_cmpR (op_neD hr.units) (pe_lamS (T := T30 Pt Pm) (t := fun E => tCall (spRunX K C CN CU CB) [] E (tCons (tVar 8) (tCons (tVar 10) (tCons (tVar 11) tNil)))) (k := 9) (L := LamX.lamS_by (by show LamX.lamSB (defScope s_law) _ = true; decide +kernel)) GT (said_gives XX EC z.isinstance hr) TB hr (fun E A out s H fl cd rm => by exact (pe_calxL cx_run_3 rm takesLam (pa_cons (pv 8) (pa_cons (pv 10) (pa_cons (pv 11) pa_nil))))) (hm := List.mem_cons_self) (hu := hu_law nP)) (pe_tup (pa_cons pe_str (pa_cons (pe_ix ix_list (pv 4) pe_int (fun _ _ => rfl)) pa_nil))) (nomark _)) (pss_one (ps_ret pe_bl)) pss_nil)
      (pss_cons (ps_if (pt_cmpR (op_neD hr.units) (pe_lamS (T := T30 Pt Pm) (t := fun E => tCall (spRunX K C CN CU CB) [V.non] E (tCons (tVar 8) (tCons (tOp rCat (tVar 6) (tLst (tCons (tVar 5) tNil))) tNil))) (k := 9) (L := LamX.lamS_by (by show LamX.lamSB (defScope s_law) _ = true; decide +kernel)) GT (said_gives XX EC z.isinstance hr) TB hr (fun E A out s H fl cd rm => by exact (pe_calxL cx_run_2 rm takesLam (pa_cons (pv 8) (pa_cons (pe_op op_cat (pv 6) (pe_lst (pa_cons (pv 5) pa_nil))) pa_nil)))) (hm := List.mem_cons_self) (hu := hu_law nP)) (pe_tup (pa_cons pe_str (pa_cons (pe_callB call_len_seq (by rfl) z.len PySem.boot_len (pa_cons (pv 6) pa_nil)) pa_nil))) (nomark _)) (pss_one (ps_ret pe_bl)) pss_nil)
      (pss_cons (ps_if (pt_cmpR op_notN (pv 9) pe_non (nomark _)) (pss_cons (ps_if (pt_cmpR (op_neD hr.units) (pe_lamS (T := T30 Pt Pm) (t := fun E => tCall (spRunX K C CN CU CB) [] E (tCons (tVar 8) (tCons (tVar 10) (tCons (tVar 9) tNil)))) (k := 9) (L := LamX.lamS_by (by show LamX.lamSB (defScope s_law) _ = true; decide +kernel)) GT (said_gives XX EC z.isinstance hr) TB hr (fun E A out s H fl cd rm => by exact (pe_calxL cx_run_3 rm takesLam (pa_cons (pv 8) (pa_cons (pv 10) (pa_cons (pv 9) pa_nil))))) (hm := List.mem_cons_self) (hu := hu_law nP)) (pe_tup (pa_cons pe_str (pa_cons pe_int pa_nil))) (nomark _)) (pss_one (ps_ret pe_bl)) pss_nil)
      (pss_cons (ps_if (pt_cmpR (op_neD hr.units) (pe_lamS (T := T30 Pt Pm) (t := fun E => tCallN 0 (["state", "words", "net"] : List Str).length (spRunX K C CN CU CB) (fun vs zs => vs ++ zs.reverse) E tNil (tCons (tVar 9) (tCons (tVar 6) (tCons (tVar 8) tNil)))) (k := 9) (L := LamX.lamS_by (by show LamX.lamSB (defScope s_law) _ = true; decide +kernel)) GT (said_gives XX EC z.isinstance hr) TB hr (fun E A out s H fl cd rm => by exact (pe_calxL0 ck_run rm takesLam (pk_cons (pv 9) (pk_cons (pv 6) (pk_cons (pv 8) pk_nil))))) (hm := List.mem_cons_self) (hu := hu_law nP)) (pe_tup (pa_cons pe_str (pa_cons pe_int pa_nil))) (nomark _)) (pss_one (ps_ret pe_bl)) pss_nil)
      (pss_one (ps_ret (pe_cal c__law_machine_right hr (pa_cons (pv 8) (pa_cons (pv 11) (pa_cons (pv 7) (pa_cons (pv 5) (pa_cons (pv 9) pa_nil)))))))))) pss_nil)
      (pss_one (ps_ret (pe_cal c__law_machine_right hr (pa_cons (pv 8) (pa_cons (pv 11) (pa_cons (pv 7) (pa_cons (pv 5) (pa_cons (pe_op op_catA (pv 11) (pe_tup (pa_cons pe_int pa_nil))) pa_nil)))))))))))))))))))))))))), ?_⟩
    refine ⟨_, rfl, as, ns, 0, rfl, hS, _, rfl, fun a ha0 H1 s1 k1 => ?_⟩
    refine ⟨a, rfl, k1.mono (by decide), fun n pa H2 nok hst mild l26 k2 sb2 npa hppA => ?_⟩
    have hpp := hppA H2 (.refl _ _)
    have S2 : Same H H2 := same_but s1 sb2 ha0
    clear s1 k1 k2 sb2 hppA npa ha0
    refine ⟨_, rfl, pa, n, rfl, hpp, nok, fun p1a H3 s3 hn => ?_⟩
    replace hpp := hpp.same s3
    have S3 : Same H H3 := S2.trans s3
    have T3 := LamX.Tabs.ext T0 S3
    clear S2 s3 T0
    obtain ⟨fa, ra, ha, hpa, ⟨fv, hfa, tf⟩, ⟨rv, hra, tr⟩, ⟨hv, hha, th⟩⟩ := id hpp
    have lh : hv.length = n.holds.length := by
      have := th.len
      rw [List.length_map] at this
      exact this
    have h6 := nok.h2
    refine ⟨_, rfl, as, ns, 1, rfl, Same.sqL S3 hS, _, rfl, fun a ha5 H5 s5 k5 => ?_⟩
    refine ⟨_, rfl, pa, _, 3, .ref ha, rfl, rfl, SqT.of (s5 _ _ hpa), atI_nat (j := 3) rfl, ha, rfl, ⟨_, SqL.of (s5 _ _ hha)⟩, fun D hD => ?_⟩
    have nD := k5.ne hD
    have hD4 := s5.free hD
    refine lc_it (walk_list (K := K) (a := ha) (xs := hv)) (fun i G => Same H3 G ∧ WellAt G a (5 * i) ∧ ∃ st : List Int, G D = some (.lst (st.map V.int)) ∧ st.length = i ∧ (∀ (j : Nat) (h : Hold) (k : Int), n.holds[j]? = some h → st[j]? = some k → inR (frm n.fs h.k).w k = true) ∧ ∀ k ∈ st, k.natAbs < 2 ^ 70) ⟨s5.trans (same_new hD), (k5.same (same_new hD)).mono (by omega), [], upd_same, rfl, (fun j h k _ e => nomatch e), fun k e => nomatch e⟩ (fun i G _ hP => SqL.of (hP.1 _ _ hha)) (fun i v G G' hi hP hY => ?_) (fun G hP => ?_)
    · obtain ⟨s6, wl, st, hd, lst, hin, hsz⟩ := hP
      obtain ⟨rfl, e1⟩ := hY
      obtain ⟨hp, xs, rfl, ex, hhp⟩ := th.get e1
      rw [List.getElem?_map] at ex
      obtain ⟨hh, eh, rfl⟩ := Option.map_eq_some_iff.mp ex
      have kl := (nok.ho hh (List.mem_of_getElem? eh)).1
      have ef := List.getElem?_eq_getElem kl
      have efr := frm_at ef
      obtain ⟨fp, ep, hfp⟩ := tf.at (i := hh.k) (xs := (n.fs[hh.k]'kl).vs) (by rw [List.getElem?_map, ef]; rfl)
      have i6 : i < 6 := by omega
      refine ⟨rfl, _, rfl, _, rfl, pa, _, 0, .ref fa, rfl, rfl, SqT.of (s6 _ _ hpa), a0, _, rfl, hp, _, 0, .int hh.k, rfl, rfl, SqT.of (s6 _ _ hhp), a0, fa, _, _, .ref fp, rfl, rfl, SqL.of (s6 _ _ hfa), atI_nat ep, a, fp, _, 5 * i, rfl, s6 _ _ hfp, nok.fo _ (List.getElem_mem kl), wl, by omega, by omega, fun k G2 kin ksz sb w => ?_⟩
      have s7 : Same H3 G2 := same_but s6 sb ha5
      refine ⟨_, sb _ _ nD hd, sl_lt (by rw [List.length_map]; omega), fun b o e => ?_, (w.but SameBut.upd nD.symm).mono (by omega), st ++ [k], ?_, ?_, fun j h2 k2 ej ek => ?_, fun k2 hk2 => ?_⟩
      · rw [upd_ne (ne_of_none e hD4)]
        exact s7 _ _ e
      · rw [upd_same, List.map_append]
        rfl
      · rw [List.length_append, List.length_singleton, lst]
      · by_cases c : j < st.length
        · rw [List.getElem?_append_left c] at ek
          exact hin j h2 k2 ej ek
        · rw [List.getElem?_append_right (by omega)] at ek
          have jl : j - st.length = 0 := by
            have := (List.getElem?_eq_some_iff.mp ek).1
            simp only [List.length_singleton] at this
            omega
          rw [jl] at ek
          have ji : j = i := by omega
          rw [ji, eh] at ej
          cases ej
          cases ek
          rw [efr]
          exact kin
      · rcases List.mem_append.mp hk2 with hk2 | hk2
        · exact hsz k2 hk2
        · rw [List.mem_singleton.mp hk2]
          exact ksz
    obtain ⟨s6, wl, st, hd, lst, hin, hsz⟩ := hP
    have so : StOk n st := ⟨by rw [lst, lh], hin⟩
    refine ⟨D, _, rfl, .inl ⟨SqL.of hd, fun sa hsa0 => ?_⟩⟩
    generalize hG7 : upd _ sa _ = H7
    obtain ⟨s7, h_sa⟩ := upd_gen hG7 hsa0
    have S7 := s6.trans s7
    have wl7 := wl.same s7
    clear s6 s7 hd hsa0 hD hD4
    have ef := List.getElem?_eq_getElem nok.en
    have efr := frm_at ef
    obtain ⟨fe, efe, hfe⟩ := tf.at (i := n.en) (xs := (frm n.fs n.en).vs) (by rw [List.getElem?_map, ef, efr]; rfl)
    have fo : (frm n.fs n.en).Ok := by
      rw [efr]
      exact nok.fo _ (List.getElem_mem _)
    refine ⟨_, rfl, pa, _, 0, .ref fa, rfl, rfl, SqT.of (S7 _ _ hpa), a0, _, rfl, pa, _, 1, .int n.en, rfl, rfl, SqT.of (S7 _ _ hpa), a1, fa, _, _, .ref fe, rfl, rfl, SqL.of (S7 _ _ hfa), atI_nat efe, ?_⟩
    refine ⟨_, rfl, _, rfl, _, rfl, H3, a, pa, sa, n, st, 60, rfl, S7, ha5, hpp, nok, h_sa, so.len, wl7.mono (by omega), by omega, by omega, fun nw H8 bnw sb8 w8 => ?_⟩
    have S8 := same_but S7 sb8 ha5
    refine ⟨_, rfl, _, rfl, a, fe, frm n.fs n.en, 70, rfl, S8 _ _ hfe, fo, w8, by omega, by omega, fun bad H9 bbad sb9 w9 => ?_⟩
    have S9 := same_but S8 sb9 ha5
    obtain ⟨ws8, hw8⟩ := w8.lst
    obtain ⟨ws9, hw9⟩ := w9.lst
    obtain ⟨ws7, hw7⟩ := wl7.lst
    have nsa : sa ≠ a := ne_of h_sa hw7 (fun z => nomatch z)
    have hs9 := sb9 _ _ nsa (sb8 _ _ nsa h_sa)
    replace bnw := bnw.but sb9 hw8 hw9
    clear S8 sb8 sb9 w8 hw8 hw7 h_sa S7 wl7
    refine ⟨_, rfl, a, 73, 10, rfl, w9, by omega, by decide, by decide +kernel, fun r10 H10 r100 r101 d10 e10 w10 => ⟨_, rfl, a, 73 + 1, 10, rfl, w10, by omega, by decide, by decide +kernel, fun r11 H11 r110 r111 d11 e11 w11 => ⟨(by show 2 ≤ sizeLine; decide), fun l12 hl12 => ?_⟩⟩⟩
    generalize hG12 : upd _ l12 _ = H12
    obtain ⟨s12, h_l12⟩ := upd_gen hG12 hl12
    refine ⟨l12, [r10, r11], rfl, SqL.of h_l12, by show 2 < 64; decide, fun ps pl hperm hpw hpl => ?_⟩
    generalize hG13 : upd _ pl _ = H13
    obtain ⟨s13, h_pl⟩ := upd_gen hG13 hpl
    obtain ⟨p0, p1, rfl, p01, hp0, hp1⟩ := two_sorted hperm hpw
    have q00 : 0 ≤ p0 := by rcases hp0 with rfl | rfl <;> assumption
    have q10 : p1 < 10 := by rcases hp1 with rfl | rfl <;> assumption
    have D13 : SameBut a H9 H13 := (d10.trans d11).trans ((SameBut.of s12).trans (.of s13))
    have w13 := (w11.same s12).same s13
    have np : pl ≠ a := (w11.same s12).ne hpl
    clear d10 d11 e10 e11 w10 w11 s12 s13 h_l12 hl12 hG12 hG13 hpl hperm hpw hp0 hp1 r100 r101 r110 r111
    refine ⟨_, rfl, pl, _, 1, .int p1, rfl, rfl, SqL.of h_pl, a1, _, rfl, a, 73 + 1 + 1, 3, rfl, w13, by omega, by decide, by decide +kernel, fun r14 H14 r140 r141 d14 e14 w14 => ⟨_, _, rfl, rfl, (p1 + r14).toNat, by rw [Int.toNat_of_nonneg (by omega)], by omega, by omega, fun el hel => ?_⟩⟩
    have D14 := D13.trans d14
    have nel : el ≠ a := w14.ne hel
    have S14 := same_but S9 D14 ha5
    have fel : H3 el = none := S14.free hel
    have hs14 := D14 _ _ nsa hs9
    have hpl14 := d14 _ _ np h_pl
    refine lc_it walk_range (fun i G => SameBut a H14 G ∧ WellAt G a (80 + 5 * i) ∧ ∃ xs : List Int, G el = some (.lst (xs.map V.int)) ∧ xs.length = i ∧ ∀ x ∈ xs, inR (frm n.fs n.en).w x = true) ⟨.of (same_new hel), (w14.same (same_new hel)).mono (by omega), [], upd_same, rfl, fun n x => nomatch x⟩ (fun _ _ _ _ => trivial) (fun i x G G' hi hP hY => ?_) (fun G hP => ?_)
    · obtain ⟨sb, wl, xs, hd, lx, hx⟩ := hP
      obtain ⟨rfl, rfl⟩ := hY
      have SG := same_but S14 sb ha5
      refine ⟨rfl, _, rfl, _, rfl, a, fe, frm n.fs n.en, 80 + 5 * i, rfl, SG _ _ hfe, fo, wl, by omega, by omega, fun k G2 kin _ sb2 w2 => ⟨_, sb2 _ _ nel hd, sl_lt (by rw [List.length_map]; omega), fun b o nb e => ?_, (w2.but SameBut.upd nel.symm).mono (by omega), xs ++ [k], ?_, by rw [List.length_append, lx]; rfl, fun y hy => ?_⟩⟩
      · rw [upd_ne (ne_of_none e hel)]
        exact sb2 _ _ nb (sb _ _ nb e)
      · rw [upd_same, List.map_append]
        rfl
      · rcases List.mem_append.mp hy with hy | hy
        · exact hx y hy
        · rw [List.mem_singleton.mp hy]
          exact kin
    obtain ⟨sb, wl, xs, hd, lx, hx⟩ := hP
    have SG := same_but S14 sb ha5
    have nb := noT_no H3
    have B3 := noT_same H3
    replace hn := hn.ext (noT_ext H3)
    have ba : noT H3 a = none := noT_none ha5
    have hfe3 := noT_ext H3 _ _ hfe (fun _ z => nomatch z)
    refine ⟨fun σ G => ∃ x : Int, σ = [some (.ref as), some (.ref pa), some (.ref a), some (.ref fe), some (.ref pl), some bad, some (.ref el), some (.int x), some (.ref p1a), some nw, none, some (.ref sa), none, none] ∧ inR (frm n.fs n.en).w x = true ∧ x.natAbs < 2 ^ 70 ∧ Bag30 (noT H3) (T30 Pt Pm) n a sa el pl st xs p0 p1 bad nw 155 G, ?_, fun σ G0 hM => ?_⟩
    · refine ⟨_, rfl, _, rfl, a, fe, frm n.fs n.en, 150, rfl, SG _ _ hfe, fo, wl.mono (by omega), by omega, by omega, fun x H15 xin xsz sb15 w15 => ?_⟩
      have D15 : SameBut a H9 H15 := D14.trans (sb.trans sb15)
      have S15 := same_but S9 D15 ha5
      obtain ⟨ws15, hw15⟩ := w15.lst
      exact ⟨x, rfl, xin, xsz, B3.trans S15, LamX.Tabs.ext T3 S15, w15, D15 _ _ nsa hs9, sb15 _ _ nel hd, (sb.trans sb15) _ _ np hpl14, nel, np, bbad.but D15 hw15, bnw.but D15 hw9 hw15⟩
    obtain ⟨x, rfl, xin, xsz, bg⟩ := hM
    have fit : Fit30 n st x := ⟨run_ok nok mild hsz (by simp only [List.mem_cons, List.mem_nil_iff, or_false, forall_eq_or_imp, forall_eq]; exact ⟨xsz, xsz⟩) (by show 2 ≤ 300; decide), run_ok nok mild hsz (by simp only [List.mem_cons, List.mem_nil_iff, or_false, forall_eq]; exact xsz) (by show 1 ≤ 300; decide)⟩
    clear sb hd wl S14 SG D14 D13 d14 w14 hs14 hpl14 h_pl hs9 bnw bbad S9 w9 hw9 hel hpa hfa tf hra tr hha th T3 hS S3
    generalize noT H3 = B at *
    refine ⟨bg.t, fun K1 e1 U1 E' Q' hb hu => ?_⟩
    have b1 := bg.ext nb e1 U1
    clear bg
    refine ⟨_, rfl, _, rfl, _, rfl, p1a, n, nw, bad, rfl, hn.same b1.bs, .inl ⟨b1.nw.no, fun K2 s2 => ?_⟩⟩
    refine hb K2 fun t K3 s3 h_t => ?_
    have SS := (s2.trans s3)
    have b3 := b1.same SS
    clear b1 hb hu U1 e1
    refine ⟨(by show 2 ≤ sizeLine; decide), fun u1 hu1 => ?_⟩
    generalize hGu1 : upd _ u1 _ = Gu1
    obtain ⟨su1, h_u1⟩ := upd_gen hGu1 hu1
    refine ⟨.tuple [.str "state", .int 0], .tuple [.str "state", .int 0], .tup (SqT.of (su1 _ _ h_t)) (.cons (.str _) (.cons (.int _) .nil)), .tup (SqT.of h_u1) (.cons (.str _) (.cons (.int _) .nil)), (by decide +kernel), (by decide +kernel), _, rfl, ?_⟩
    refine iteC (c := !PyData.eqv (.tuple [.str "state", .int 0]) (.tuple [.str "state", .int 0])) (d := false) (by decide +kernel) (iteF ?_)
    have bg := b3.same su1
    clear b3 su1 h_u1 hu1 hGu1 h_t SS
    refine ⟨bg.t, fun K1 e1 U1 E' Q' hb hu => ?_⟩
    have b1 := bg.ext nb e1 U1
    clear bg
    refine ⟨_, rfl, _, rfl, _, rfl, p1a, n, nw, .int x, rfl, hn.same b1.bs, .inl ⟨b1.nw.no, fun K2 s2 => ?_⟩⟩
    refine hb K2 fun t K3 s3 h_t => ?_
    have SS := (s2.trans s3)
    have b3 := b1.same SS
    clear b1 hb hu U1 e1
    refine ⟨(by show 2 ≤ sizeLine; decide), fun u1 hu1 => ?_⟩
    generalize hGu1 : upd _ u1 _ = Gu1
    obtain ⟨su1, h_u1⟩ := upd_gen hGu1 hu1
    refine ⟨.tuple [.str "state", .int 0], .tuple [.str "state", .int 0], .tup (SqT.of (su1 _ _ h_t)) (.cons (.str _) (.cons (.int _) .nil)), .tup (SqT.of h_u1) (.cons (.str _) (.cons (.int _) .nil)), (by decide +kernel), (by decide +kernel), _, rfl, ?_⟩
    refine iteC (c := !PyData.eqv (.tuple [.str "state", .int 0]) (.tuple [.str "state", .int 0])) (d := false) (by decide +kernel) (iteF ?_)
    have bg := b3.same su1
    clear b3 su1 h_u1 hu1 hGu1 h_t SS
    refine ⟨bg.t, fun K1 e1 U1 E' Q' hb hu => ?_⟩
    have b1 := bg.ext nb e1 U1
    clear bg
    refine ⟨_, rfl, _, rfl, _, rfl, p1a, n, .ref sa, bad, rfl, hn.same b1.bs, .inr ⟨sa, st, rfl, b1.s, so, b1.b.no, fun K2 d s2 hd => ?_⟩⟩
    refine hu d (0) _ upd_same fun t K3 s3 h_t => ?_
    have SS := (s2.trans ((same_new hd).trans s3))
    have b3 := b1.same SS
    clear b1 hb hu U1 e1
    refine ⟨(by show 2 ≤ sizeLine; decide), fun u1 hu1 => ?_⟩
    generalize hGu1 : upd _ u1 _ = Gu1
    obtain ⟨su1, h_u1⟩ := upd_gen hGu1 hu1
    refine ⟨.tuple [.str "word", .int 0], .tuple [.str "word", .int 0], .tup (SqT.of (su1 _ _ h_t)) (.cons (.str _) (.cons (.int _) .nil)), .tup (SqT.of h_u1) (.cons (.str _) (.cons (.int _) .nil)), (by decide +kernel), (by decide +kernel), _, rfl, ?_⟩
    refine iteC (c := !PyData.eqv (.tuple [.str "word", .int 0]) (.tuple [.str "word", .int 0])) (d := false) (by decide +kernel) (iteF ?_)
    have bg := b3.same su1
    clear b3 su1 h_u1 hu1 hGu1 h_t SS
    have xl : (xs.map V.int).length = xs.length := List.length_map ..
    obtain ⟨k0, rfl⟩ : ∃ k : Nat, p0 = k := ⟨p0.toNat, by omega⟩
    obtain ⟨k1, rfl⟩ : ∃ k : Nat, p1 = k := ⟨p1.toNat, by omega⟩
    have x12 : xs.length ≤ 12 := by omega
    have k1l : k1 ≤ xs.length := by omega
    have k0l : k0 ≤ xs.length := by omega
    refine ⟨_, rfl, _, rfl, pl, _, 0, .int (k0 : Nat), rfl, rfl, SqL.of bg.p, a0, _, rfl, el, _, rfl, SqL.of bg.e, fun l1 hl1 => ?_⟩
    generalize hG1 : upd _ l1 _ = G1
    obtain ⟨s1, h_l1⟩ := upd_gen hG1 hl1
    rw [cut_take (by omega)] at h_l1
    refine ⟨_, rfl, (by show 1 ≤ sizeLine; decide), fun l2 hl2 => ?_⟩
    generalize hG2 : upd _ l2 _ = G2
    obtain ⟨s2, h_l2⟩ := upd_gen hG2 hl2
    have tk : ((xs.map V.int).take k0).length = k0 := by rw [List.length_take]; omega
    refine ⟨l1, l2, _, _, rfl, rfl, s2 _ _ h_l1, h_l2, sl_le (by rw [tk]; simp only [List.length_cons, List.length_nil]; omega), fun l3 hl3 => ?_⟩
    generalize hG3 : upd _ l3 _ = G3
    obtain ⟨s3, h_l3⟩ := upd_gen hG3 hl3
    replace bg := ((bg.same s1).same s2).same s3
    refine ⟨_, rfl, _, rfl, pl, _, 0, .int (k0 : Nat), rfl, rfl, SqL.of bg.p, a0, _, rfl, _, rfl, pl, _, 1, .int (k1 : Nat), rfl, rfl, SqL.of bg.p, a1, _, rfl, el, _, rfl, SqL.of bg.e, fun l4 hl4 => ?_⟩
    generalize hG4 : upd _ l4 _ = G4
    obtain ⟨s4, h_l4⟩ := upd_gen hG4 hl4
    have c2 : (cutV (xs.map V.int) (some (k0 : Int)) (some (k1 : Int))).length ≤ 12 := by
      have := cutV_length (xs.map V.int) (some (k0 : Int)) (some (k1 : Int))
      omega
    have c3 : (cutV (xs.map V.int) (some (k1 : Int)) none).length ≤ 12 := by
      have := cutV_length (xs.map V.int) (some (k1 : Int)) none
      omega
    generalize cutV (xs.map V.int) (some (k0 : Int)) (some (k1 : Int)) = C2 at *
    refine ⟨l3, l4, _, _, rfl, rfl, s4 _ _ h_l3, h_l4, sl_le (by simp only [List.length_append, tk, List.length_cons, List.length_nil]; omega), fun l5 hl5 => ?_⟩
    generalize hG5 : upd _ l5 _ = G5
    obtain ⟨s5, h_l5⟩ := upd_gen hG5 hl5
    have n5 : l5 ≠ a := (bg.w.same s4).ne hl5
    replace bg := (bg.same s4).same s5
    refine ⟨_, rfl, _, rfl, _, rfl, a, fe, frm n.fs n.en, 155, rfl, bg.bs _ _ hfe3, fo, bg.w, by omega, by omega, fun bad2 H6 bb2 sb6 w6 => ?_⟩
    replace bg := bg.but ba sb6 w6
    replace h_l5 := sb6 _ _ n5 h_l5
    refine ⟨(by show 1 ≤ sizeLine; decide), fun l7 hl7 => ?_⟩
    generalize hG7 : upd _ l7 _ = G7
    obtain ⟨s7, h_l7⟩ := upd_gen hG7 hl7
    refine ⟨l5, l7, _, _, rfl, rfl, s7 _ _ h_l5, h_l7, sl_le (by simp only [List.length_append, tk, List.length_cons, List.length_nil]; omega), fun l8 hl8 => ?_⟩
    generalize hG8 : upd _ l8 _ = G8
    obtain ⟨s8, h_l8⟩ := upd_gen hG8 hl8
    replace bg := (bg.same s7).same s8
    refine ⟨_, rfl, _, rfl, pl, _, 1, .int (k1 : Nat), rfl, rfl, SqL.of bg.p, a1, _, rfl, ?_⟩
    dsimp only [tNoPart]
    refine ⟨el, _, rfl, SqL.of bg.e, fun l9 hl9 => ?_⟩
    generalize cutV (xs.map V.int) (some (k1 : Int)) none = C3 at *
    generalize hG9 : upd _ l9 _ = G9
    obtain ⟨s9, h_l9⟩ := upd_gen hG9 hl9
    refine ⟨l8, l9, _, _, rfl, rfl, s9 _ _ h_l8, h_l9, sl_le (by simp only [List.length_append, tk, List.length_cons, List.length_nil]; omega), fun rw_ hrw => ?_⟩
    generalize hG10 : upd _ rw_ _ = G10
    obtain ⟨s10, hR⟩ := upd_gen hG10 hrw
    replace bg := (bg.same s9).same s10
    obtain ⟨RV, eRV⟩ : ∃ RV, RV = (((xs.map V.int).take k0 ++ [bad] ++ C2) ++ [bad2]) ++ C3 := ⟨_, rfl⟩
    have lRV : RV.length ≤ 200 := by
      rw [eRV]
      simp only [List.length_append, tk, List.length_cons, List.length_nil]
      omega
    replace eRV : RV = (xs.map V.int).take k0 ++ bad :: (C2 ++ bad2 :: C3) := by
      rw [eRV]
      simp only [List.append_assoc, List.cons_append, List.nil_append]
    replace hR : G10 rw_ = some (.lst RV) := by
      rw [hR, eRV]
      simp only [List.append_assoc, List.cons_append, List.nil_append]
    clear s1 s2 s3 s4 s5 s7 s8 s9 s10 h_l1 h_l2 h_l3 h_l4 h_l5 h_l7 h_l8 h_l9 sb6 w6 bb2 hl1 hl2 hl3 hl4 hl5 hl7 hl8 hl9 hrw n5
    refine ⟨bg.t, fun K1 e1 U1 E' Q' hb hu => ?_⟩
    have b1 := bg.ext nb e1 U1
    clear bg
    have hR1 := e1 _ _ hR (fun _ z => nomatch z)
    refine ⟨_, rfl, _, rfl, _, rfl, p1a, rw_, n, RV, .ref sa, rfl, hn.same b1.bs, hR1, lRV, .inr ⟨st, k0, .inr ⟨sa, rfl, b1.s, so⟩, (by rw [eRV]; exact bad_rows k0l hx b1.b.no), fun K2 d s2 hd => ?_⟩⟩
    refine hu d ((k0 : Nat)) _ upd_same fun t K3 s3 h_t => ?_
    have SS := (s2.trans ((same_new hd).trans s3))
    have b3 := b1.same SS
    have hR3 := SS _ _ hR1
    clear b1 hb hu U1 e1
    refine ⟨_, rfl, pl, _, 0, .int (k0 : Nat), rfl, rfl, SqL.of b3.p, a0, (by show 2 ≤ sizeLine; decide), fun u1 hu1 => ?_⟩
    generalize hGu1 : upd _ u1 _ = Gu1
    obtain ⟨su1, h_u1⟩ := upd_gen hGu1 hu1
    refine ⟨.tuple [.str "word", .int ((k0 : Nat))], .tuple [.str "word", .int ((k0 : Nat))], .tup (SqT.of (su1 _ _ h_t)) (.cons (.str _) (.cons (.int _) .nil)), .tup (SqT.of h_u1) (.cons (.str _) (.cons (.int _) .nil)), word_shaped _, word_shaped _, _, rfl, ?_⟩
    refine iteC (c := !PyData.eqv (.tuple [.str "word", .int ((k0 : Nat))]) (.tuple [.str "word", .int ((k0 : Nat))])) (d := false) (by rw [word_eqv]; rfl) (iteF ?_)
    have bg := b3.same su1
    replace hR := su1 _ _ hR3
    clear b3 su1 h_u1 hu1 hGu1 h_t SS
    refine ⟨bg.t, fun K1 e1 U1 E' Q' hb hu => ?_⟩
    have b1 := bg.ext nb e1 U1
    clear bg
    have hR1 := e1 _ _ hR (fun _ z => nomatch z)
    refine ⟨_, rfl, _, rfl, _, rfl, (by show 1 ≤ sizeLine; decide), fun l2 hl2 => ?_⟩
    generalize hG2 : upd _ l2 _ = G2
    obtain ⟨s20, h_l2⟩ := upd_gen hG2 hl2
    refine ⟨el, l2, _, _, rfl, rfl, s20 _ _ b1.e, h_l2, sl_le (by rw [xl]; simp only [List.length_cons, List.length_nil]; omega), fun l3 hl3 => ?_⟩
    generalize hG3 : upd _ l3 _ = G3
    obtain ⟨s30, h_l3⟩ := upd_gen hG3 hl3
    have s23 := s20.trans s30
    refine ⟨p1a, l3, n, _, .non, rfl, hn.same (b1.bs.trans s23), h_l3, by rw [List.length_append, xl]; simp only [List.length_cons, List.length_nil]; omega, .inr ⟨_, (xs.map V.int).length, .inl ⟨rfl, rfl⟩, ?_, fun K2 d s2 hd => ?_⟩⟩
    · have := bad_rows (K := K) (H := G3) (R := []) (Nat.le_refl xs.length) hx (b1.b.same s23).no
      rw [List.take_of_length_le (by omega)] at this
      rw [xl]
      exact this
    refine hu d (((xs.map V.int).length : Nat)) _ upd_same fun t K3 s3 h_t => ?_
    have SS := ((s23).trans (s2.trans ((same_new hd).trans s3)))
    have b3 := b1.same SS
    have hR3 := SS _ _ hR1
    clear b1 hb hu U1 e1
    refine ⟨_, rfl, el, _, rfl, .inl (SqL.of b3.e), (by show 2 ≤ sizeLine; decide), fun u1 hu1 => ?_⟩
    generalize hGu1 : upd _ u1 _ = Gu1
    obtain ⟨su1, h_u1⟩ := upd_gen hGu1 hu1
    refine ⟨.tuple [.str "word", .int (((xs.map V.int).length : Nat))], .tuple [.str "word", .int (((xs.map V.int).length : Nat))], .tup (SqT.of (su1 _ _ h_t)) (.cons (.str _) (.cons (.int _) .nil)), .tup (SqT.of h_u1) (.cons (.str _) (.cons (.int _) .nil)), word_shaped _, word_shaped _, _, rfl, ?_⟩
    refine iteC (c := !PyData.eqv (.tuple [.str "word", .int (((xs.map V.int).length : Nat))]) (.tuple [.str "word", .int (((xs.map V.int).length : Nat))])) (d := false) (by rw [word_eqv]; rfl) (iteF ?_)
    have bg := b3.same su1
    replace hR := su1 _ _ hR3
    clear b3 su1 h_u1 hu1 hGu1 h_t SS
    by_cases c : nw = .non
    · subst c
      refine ⟨_, rfl, rfl, _, rfl, iteF ?_⟩
      refine ⟨_, rfl, _, rfl, _, rfl, _, rfl, _, rfl, (by show 1 ≤ sizeLine; decide), fun t1 ht1 => ?_⟩
      generalize hG1 : upd _ t1 _ = G1
      obtain ⟨s1, h_t1⟩ := upd_gen hG1 ht1
      refine catA_of (s1 _ _ bg.s) h_t1 (by rw [List.length_map]; simp only [List.length_cons, List.length_nil]; have := so.len; omega) fun p2 G2 s2 h_p2 => ?_
      replace bg := (bg.same s1).same s2
      refine ⟨noT _, p1a, sa, n, st, x, bad, .ref p2, rfl, noT_no _, noT_same _, bg.t, (hn.same bg.bs).ext (noT_ext _), noT_at bg.s (fun _ z => nomatch z), so, xin, fit, bg.b.ext (noT_ext _), .inr (.inr (.inr (.inr (.inr (.inl ⟨p2, _, rfl, noT_at h_p2 (fun _ z => nomatch z), ?_⟩))))), (fun z => nomatch z), fun H' => q H'⟩
      rw [List.length_append, List.length_map]
      have := so.len
      simp only [List.length_cons, List.length_nil]
      omega
    · refine ⟨_, rfl, rfl, _, rfl, iteC (d := true) (by rw [decide_eq_false c]; rfl) (iteT ?_)⟩
      refine ⟨bg.t, fun K1 e1 U1 E' Q' hb hu => ?_⟩
      have b1 := bg.ext nb e1 U1
      clear bg
      have hR1 := e1 _ _ hR (fun _ z => nomatch z)
      refine ⟨_, rfl, _, rfl, _, rfl, p1a, rw_, n, RV, nw, rfl, hn.same b1.bs, hR1, lRV, .inl ⟨c, b1.nw.no, fun K2 s2 => ?_⟩⟩
      refine hb K2 fun t K3 s3 h_t => ?_
      have SS := (s2.trans s3)
      have b3 := b1.same SS
      have hR3 := SS _ _ hR1
      clear b1 hb hu U1 e1
      refine ⟨(by show 2 ≤ sizeLine; decide), fun u1 hu1 => ?_⟩
      generalize hGu1 : upd _ u1 _ = Gu1
      obtain ⟨su1, h_u1⟩ := upd_gen hGu1 hu1
      refine ⟨.tuple [.str "state", .int 0], .tuple [.str "state", .int 0], .tup (SqT.of (su1 _ _ h_t)) (.cons (.str _) (.cons (.int _) .nil)), .tup (SqT.of h_u1) (.cons (.str _) (.cons (.int _) .nil)), (by decide +kernel), (by decide +kernel), _, rfl, ?_⟩
      refine iteC (c := !PyData.eqv (.tuple [.str "state", .int 0]) (.tuple [.str "state", .int 0])) (d := false) (by decide +kernel) (iteF ?_)
      have bg := b3.same su1
      replace hR := su1 _ _ hR3
      clear b3 su1 h_u1 hu1 hGu1 h_t SS
      refine ⟨bg.t, fun K1 e1 U1 E' Q' hb hu => ?_⟩
      have b1 := bg.ext nb e1 U1
      clear bg
      refine ⟨_, rfl, _, rfl, _, rfl, rfl, rfl, p1a, el, n, _, nw, rfl, hn.same b1.bs, b1.e, by omega, .inl ⟨c, b1.nw.no, fun K2 s2 => ?_⟩⟩
      refine hb K2 fun t K3 s3 h_t => ?_
      have SS := (s2.trans s3)
      have b3 := b1.same SS
      clear b1 hb hu U1 e1
      refine ⟨(by show 2 ≤ sizeLine; decide), fun u1 hu1 => ?_⟩
      generalize hGu1 : upd _ u1 _ = Gu1
      obtain ⟨su1, h_u1⟩ := upd_gen hGu1 hu1
      refine ⟨.tuple [.str "state", .int 0], .tuple [.str "state", .int 0], .tup (SqT.of (su1 _ _ h_t)) (.cons (.str _) (.cons (.int _) .nil)), .tup (SqT.of h_u1) (.cons (.str _) (.cons (.int _) .nil)), (by decide +kernel), (by decide +kernel), _, rfl, ?_⟩
      refine iteC (c := !PyData.eqv (.tuple [.str "state", .int 0]) (.tuple [.str "state", .int 0])) (d := false) (by decide +kernel) (iteF ?_)
      have bg := b3.same su1
      clear b3 su1 h_u1 hu1 hGu1 h_t SS
      exact ⟨_, rfl, _, rfl, _, rfl, _, rfl, _, rfl, noT _, p1a, sa, n, st, x, bad, nw, rfl, noT_no _, noT_same _, bg.t, (hn.same bg.bs).ext (noT_ext _), noT_at bg.s (fun _ z => nomatch z), so, xin, fit, bg.b.ext (noT_ext _), bg.nw.ext (noT_ext _), c, fun H' => q H'⟩
end
end E1

namespace E1
open PySem PySem.Spec PyProof.Rows L2
theorem all_mk {l : PySem.W.OpenLaw} {w : World} {K : PySem.W.Frag} {h : Heap} {mg : Str → Option Value} {fa : Addr} {C : Addr} {CN : Addr} {CM : Addr} {CE : Addr} {CB : Addr} {CN9 : Addr} {CT : Addr} {CU : Addr} {A_ENDS : Addr} {A_MANNERS : Addr} {A_POINT_RULES : Addr} {A_ROW_LENGTHS : Addr} (e_C : He.ga K "Form" = C) (e_CN : He.ga K "Net" = CN) (e_CM : He.ga K "Machine" = CM) (e_CE : He.ga K "EchoError" = CE) (e_CB : He.ga K "BadState" = CB) (e_CN9 : He.ga K "BadNet" = CN9) (e_CT : He.ga K "NoTurn" = CT) (e_CU : He.ga K "Unfit" = CU) (e_A_ENDS : He.ga K "ENDS" = A_ENDS) (e_A_MANNERS : He.ga K "MANNERS" = A_MANNERS) (e_A_POINT_RULES : He.ga K "POINT_RULES" = A_POINT_RULES) (e_A_ROW_LENGTHS : He.ga K "ROW_LENGTHS" = A_ROW_LENGTHS) (X : K.In h) (G : h.Ns mainGlobals mg) (hfa : mg "law" = some (.ref fa)) (hfile : (l.prog.main.file : Str) = "/claim/cut.py") (htop : (l.prog.main.scope.names.lookup ("super" : Str)).isSome = false) (c : SaysY FA FN TS TF EXB ER w h K) :
    LamX.LawAtS l w K CX0 13 63 "_law_script" mg fa h := by
  obtain ⟨fd_is_whole, F0_is_whole⟩ := c.t.d.def_ 0 (d := dd_is_whole) rfl
  have F_is_whole : Fun K "is_whole" "is_whole" s_is_whole (He.ga K "is_whole") fd_is_whole := fun_of F0_is_whole
  have k_is_whole := F_is_whole.kp
  have a_is_whole : PySem.W.nsIn K mainGlobals "is_whole" = some (some (.ref (He.ga K "is_whole"))) := He.eqO_ok (c.t.d.fact 0 (f := .glo "is_whole") rfl)
  have b_is_whole := F_is_whole.binds (ps := ["thing"]) fun _ _ _ _ _ _ us hl => match us, hl with | [_], _ => rfl
  obtain ⟨fd_downward, F0_downward⟩ := c.t.d.def_ 1 (d := dd_downward) rfl
  have F_downward : Fun K "downward" "downward" s_downward (He.ga K "downward") fd_downward := fun_of F0_downward
  have k_downward := F_downward.kp
  have a_downward : PySem.W.nsIn K mainGlobals "downward" = some (some (.ref (He.ga K "downward"))) := He.eqO_ok (c.t.d.fact 1 (f := .glo "downward") rfl)
  have b_downward := F_downward.binds (ps := ["top", "bottom"]) fun _ _ _ _ _ _ us hl => match us, hl with | [_, _], _ => rfl
  obtain ⟨fd_upward, F0_upward⟩ := c.t.d.def_ 2 (d := dd_upward) rfl
  have F_upward : Fun K "upward" "upward" s_upward (He.ga K "upward") fd_upward := fun_of F0_upward
  have k_upward := F_upward.kp
  have a_upward : PySem.W.nsIn K mainGlobals "upward" = some (some (.ref (He.ga K "upward"))) := He.eqO_ok (c.t.d.fact 2 (f := .glo "upward") rfl)
  have b_upward := F_upward.binds (ps := ["top", "bottom"]) fun _ _ _ _ _ _ us hl => match us, hl with | [_, _], _ => rfl
  obtain ⟨fd_inward, F0_inward⟩ := c.t.d.def_ 3 (d := dd_inward) rfl
  have F_inward : Fun K "inward" "inward" s_inward (He.ga K "inward") fd_inward := fun_of F0_inward
  have k_inward := F_inward.kp
  have a_inward : PySem.W.nsIn K mainGlobals "inward" = some (some (.ref (He.ga K "inward"))) := He.eqO_ok (c.t.d.fact 3 (f := .glo "inward") rfl)
  have b_inward := F_inward.binds (ps := ["top", "bottom"]) fun _ _ _ _ _ _ us hl => match us, hl with | [_, _], _ => rfl
  obtain ⟨fd_outward, F0_outward⟩ := c.t.d.def_ 4 (d := dd_outward) rfl
  have F_outward : Fun K "outward" "outward" s_outward (He.ga K "outward") fd_outward := fun_of F0_outward
  have k_outward := F_outward.kp
  have a_outward : PySem.W.nsIn K mainGlobals "outward" = some (some (.ref (He.ga K "outward"))) := He.eqO_ok (c.t.d.fact 4 (f := .glo "outward") rfl)
  have b_outward := F_outward.binds (ps := ["top", "bottom"]) fun _ _ _ _ _ _ us hl => match us, hl with | [_, _], _ => rfl
  obtain ⟨fd_nearest_greater, F0_nearest_greater⟩ := c.t.d.def_ 5 (d := dd_nearest_greater) rfl
  have F_nearest_greater : Fun K "nearest_greater" "nearest_greater" s_nearest_greater (He.ga K "nearest_greater") fd_nearest_greater := fun_of F0_nearest_greater
  have k_nearest_greater := F_nearest_greater.kp
  have a_nearest_greater : PySem.W.nsIn K mainGlobals "nearest_greater" = some (some (.ref (He.ga K "nearest_greater"))) := He.eqO_ok (c.t.d.fact 5 (f := .glo "nearest_greater") rfl)
  have b_nearest_greater := F_nearest_greater.binds (ps := ["top", "bottom"]) fun _ _ _ _ _ _ us hl => match us, hl with | [_, _], _ => rfl
  obtain ⟨fd_nearest_even, F0_nearest_even⟩ := c.t.d.def_ 6 (d := dd_nearest_even) rfl
  have F_nearest_even : Fun K "nearest_even" "nearest_even" s_nearest_even (He.ga K "nearest_even") fd_nearest_even := fun_of F0_nearest_even
  have k_nearest_even := F_nearest_even.kp
  have a_nearest_even : PySem.W.nsIn K mainGlobals "nearest_even" = some (some (.ref (He.ga K "nearest_even"))) := He.eqO_ok (c.t.d.fact 6 (f := .glo "nearest_even") rfl)
  have b_nearest_even := F_nearest_even.binds (ps := ["top", "bottom"]) fun _ _ _ _ _ _ us hl => match us, hl with | [_, _], _ => rfl
  obtain ⟨fd_nearest_far, F0_nearest_far⟩ := c.t.d.def_ 7 (d := dd_nearest_far) rfl
  have F_nearest_far : Fun K "nearest_far" "nearest_far" s_nearest_far (He.ga K "nearest_far") fd_nearest_far := fun_of F0_nearest_far
  have k_nearest_far := F_nearest_far.kp
  have a_nearest_far : PySem.W.nsIn K mainGlobals "nearest_far" = some (some (.ref (He.ga K "nearest_far"))) := He.eqO_ok (c.t.d.fact 7 (f := .glo "nearest_far") rfl)
  have b_nearest_far := F_nearest_far.binds (ps := ["top", "bottom"]) fun _ _ _ _ _ _ us hl => match us, hl with | [_, _], _ => rfl
  obtain ⟨fd_is_manner, F0_is_manner⟩ := c.t.d.def_ 8 (d := dd_is_manner) rfl
  have F_is_manner : Fun K "is_manner" "is_manner" s_is_manner (He.ga K "is_manner") fd_is_manner := fun_of F0_is_manner
  have k_is_manner := F_is_manner.kp
  have a_is_manner : PySem.W.nsIn K mainGlobals "is_manner" = some (some (.ref (He.ga K "is_manner"))) := He.eqO_ok (c.t.d.fact 8 (f := .glo "is_manner") rfl)
  have b_is_manner := F_is_manner.binds (ps := ["thing"]) fun _ _ _ _ _ _ us hl => match us, hl with | [_], _ => rfl
  obtain ⟨fd_rounded, F0_rounded⟩ := c.t.d.def_ 9 (d := dd_rounded) rfl
  have F_rounded : FunD K "rounded" "rounded" (defArgs s_rounded) (defBody s_rounded) (defScope s_rounded) [V.str "half"] [] (He.ga K "rounded") fd_rounded := F0_rounded
  have k_rounded := F_rounded.kp
  have a_rounded : PySem.W.nsIn K mainGlobals "rounded" = some (some (.ref (He.ga K "rounded"))) := He.eqO_ok (c.t.d.fact 9 (f := .glo "rounded") rfl)
  obtain ⟨ds_rounded, dv_rounded, b_rounded⟩ := F_rounded.binds1 (ps := ["value", "manner"]) 2 1 (by simp) rfl fun _ _ _ _ _ _ _ us its h1 h2 => match us, its, h1, h2 with | [_, _], [_], _, _ => ⟨_, rfl, rfl⟩
  cases dv_rounded
  obtain ⟨fd_is_width, F0_is_width⟩ := c.t.d.def_ 10 (d := dd_is_width) rfl
  have F_is_width : Fun K "is_width" "is_width" s_is_width (He.ga K "is_width") fd_is_width := fun_of F0_is_width
  have k_is_width := F_is_width.kp
  have a_is_width : PySem.W.nsIn K mainGlobals "is_width" = some (some (.ref (He.ga K "is_width"))) := He.eqO_ok (c.t.d.fact 10 (f := .glo "is_width") rfl)
  have b_is_width := F_is_width.binds (ps := ["thing"]) fun _ _ _ _ _ _ us hl => match us, hl with | [_], _ => rfl
  obtain ⟨fd_is_point, F0_is_point⟩ := c.t.d.def_ 11 (d := dd_is_point) rfl
  have F_is_point : Fun K "is_point" "is_point" s_is_point (He.ga K "is_point") fd_is_point := fun_of F0_is_point
  have k_is_point := F_is_point.kp
  have a_is_point : PySem.W.nsIn K mainGlobals "is_point" = some (some (.ref (He.ga K "is_point"))) := He.eqO_ok (c.t.d.fact 11 (f := .glo "is_point") rfl)
  have b_is_point := F_is_point.binds (ps := ["thing"]) fun _ _ _ _ _ _ us hl => match us, hl with | [_], _ => rfl
  obtain ⟨fd_is_ends, F0_is_ends⟩ := c.t.d.def_ 12 (d := dd_is_ends) rfl
  have F_is_ends : Fun K "is_ends" "is_ends" s_is_ends (He.ga K "is_ends") fd_is_ends := fun_of F0_is_ends
  have k_is_ends := F_is_ends.kp
  have a_is_ends : PySem.W.nsIn K mainGlobals "is_ends" = some (some (.ref (He.ga K "is_ends"))) := He.eqO_ok (c.t.d.fact 12 (f := .glo "is_ends") rfl)
  have b_is_ends := F_is_ends.binds (ps := ["thing"]) fun _ _ _ _ _ _ us hl => match us, hl with | [_], _ => rfl
  obtain ⟨fd_is_place, F0_is_place⟩ := c.t.d.def_ 13 (d := dd_is_place) rfl
  have F_is_place : Fun K "is_place" "is_place" s_is_place (He.ga K "is_place") fd_is_place := fun_of F0_is_place
  have k_is_place := F_is_place.kp
  have a_is_place : PySem.W.nsIn K mainGlobals "is_place" = some (some (.ref (He.ga K "is_place"))) := He.eqO_ok (c.t.d.fact 13 (f := .glo "is_place") rfl)
  have b_is_place := F_is_place.binds (ps := ["thing", "many"]) fun _ _ _ _ _ _ us hl => match us, hl with | [_, _], _ => rfl
  obtain ⟨fd_is_factor, F0_is_factor⟩ := c.t.d.def_ 14 (d := dd_is_factor) rfl
  have F_is_factor : Fun K "is_factor" "is_factor" s_is_factor (He.ga K "is_factor") fd_is_factor := fun_of F0_is_factor
  have k_is_factor := F_is_factor.kp
  have a_is_factor : PySem.W.nsIn K mainGlobals "is_factor" = some (some (.ref (He.ga K "is_factor"))) := He.eqO_ok (c.t.d.fact 14 (f := .glo "is_factor") rfl)
  have b_is_factor := F_is_factor.binds (ps := ["thing"]) fun _ _ _ _ _ _ us hl => match us, hl with | [_], _ => rfl
  obtain ⟨fd_in_point, F0_in_point⟩ := c.t.d.def_ 15 (d := dd_in_point) rfl
  have F_in_point : Fun K "in_point" "in_point" s_in_point (He.ga K "in_point") fd_in_point := fun_of F0_in_point
  have k_in_point := F_in_point.kp
  have a_in_point : PySem.W.nsIn K mainGlobals "in_point" = some (some (.ref (He.ga K "in_point"))) := He.eqO_ok (c.t.d.fact 15 (f := .glo "in_point") rfl)
  have b_in_point := F_in_point.binds (ps := ["row", "points", "given"]) fun _ _ _ _ _ _ us hl => match us, hl with | [_, _, _], _ => rfl
  obtain ⟨fd_old_point, F0_old_point⟩ := c.t.d.def_ 16 (d := dd_old_point) rfl
  have F_old_point : Fun K "old_point" "old_point" s_old_point (He.ga K "old_point") fd_old_point := fun_of F0_old_point
  have k_old_point := F_old_point.kp
  have a_old_point : PySem.W.nsIn K mainGlobals "old_point" = some (some (.ref (He.ga K "old_point"))) := He.eqO_ok (c.t.d.fact 16 (f := .glo "old_point") rfl)
  have b_old_point := F_old_point.binds (ps := ["row", "points", "given"]) fun _ _ _ _ _ _ us hl => match us, hl with | [_, _, _], _ => rfl
  obtain ⟨fd_times_point, F0_times_point⟩ := c.t.d.def_ 17 (d := dd_times_point) rfl
  have F_times_point : Fun K "times_point" "times_point" s_times_point (He.ga K "times_point") fd_times_point := fun_of F0_times_point
  have k_times_point := F_times_point.kp
  have a_times_point : PySem.W.nsIn K mainGlobals "times_point" = some (some (.ref (He.ga K "times_point"))) := He.eqO_ok (c.t.d.fact 17 (f := .glo "times_point") rfl)
  have b_times_point := F_times_point.binds (ps := ["row", "points", "given"]) fun _ _ _ _ _ _ us hl => match us, hl with | [_, _, _], _ => rfl
  obtain ⟨fd_sum_point, F0_sum_point⟩ := c.t.d.def_ 18 (d := dd_sum_point) rfl
  have F_sum_point : Fun K "sum_point" "sum_point" s_sum_point (He.ga K "sum_point") fd_sum_point := fun_of F0_sum_point
  have k_sum_point := F_sum_point.kp
  have a_sum_point : PySem.W.nsIn K mainGlobals "sum_point" = some (some (.ref (He.ga K "sum_point"))) := He.eqO_ok (c.t.d.fact 18 (f := .glo "sum_point") rfl)
  have b_sum_point := F_sum_point.binds (ps := ["row", "points", "given"]) fun _ _ _ _ _ _ us hl => match us, hl with | [_, _, _], _ => rfl
  obtain ⟨fd_move_point, F0_move_point⟩ := c.t.d.def_ 19 (d := dd_move_point) rfl
  have F_move_point : Fun K "move_point" "move_point" s_move_point (He.ga K "move_point") fd_move_point := fun_of F0_move_point
  have k_move_point := F_move_point.kp
  have a_move_point : PySem.W.nsIn K mainGlobals "move_point" = some (some (.ref (He.ga K "move_point"))) := He.eqO_ok (c.t.d.fact 19 (f := .glo "move_point") rfl)
  have b_move_point := F_move_point.binds (ps := ["row", "points", "given"]) fun _ _ _ _ _ _ us hl => match us, hl with | [_, _, _], _ => rfl
  obtain ⟨fd_keep_point, F0_keep_point⟩ := c.t.d.def_ 20 (d := dd_keep_point) rfl
  have F_keep_point : Fun K "keep_point" "keep_point" s_keep_point (He.ga K "keep_point") fd_keep_point := fun_of F0_keep_point
  have k_keep_point := F_keep_point.kp
  have a_keep_point : PySem.W.nsIn K mainGlobals "keep_point" = some (some (.ref (He.ga K "keep_point"))) := He.eqO_ok (c.t.d.fact 20 (f := .glo "keep_point") rfl)
  have b_keep_point := F_keep_point.binds (ps := ["row", "points", "given"]) fun _ _ _ _ _ _ us hl => match us, hl with | [_, _, _], _ => rfl
  obtain ⟨fd_is_written_as_row, F0_is_written_as_row⟩ := c.t.d.def_ 21 (d := dd_is_written_as_row) rfl
  have F_is_written_as_row : Fun K "is_written_as_row" "is_written_as_row" s_is_written_as_row (He.ga K "is_written_as_row") fd_is_written_as_row := fun_of F0_is_written_as_row
  have k_is_written_as_row := F_is_written_as_row.kp
  have a_is_written_as_row : PySem.W.nsIn K mainGlobals "is_written_as_row" = some (some (.ref (He.ga K "is_written_as_row"))) := He.eqO_ok (c.t.d.fact 21 (f := .glo "is_written_as_row") rfl)
  have b_is_written_as_row := F_is_written_as_row.binds (ps := ["thing"]) fun _ _ _ _ _ _ us hl => match us, hl with | [_], _ => rfl
  obtain ⟨fd_row_point, F0_row_point⟩ := c.t.d.def_ 22 (d := dd_row_point) rfl
  have F_row_point : Fun K "row_point" "row_point" s_row_point (He.ga K "row_point") fd_row_point := fun_of F0_row_point
  have k_row_point := F_row_point.kp
  have a_row_point : PySem.W.nsIn K mainGlobals "row_point" = some (some (.ref (He.ga K "row_point"))) := He.eqO_ok (c.t.d.fact 22 (f := .glo "row_point") rfl)
  have b_row_point := F_row_point.binds (ps := ["row", "points", "given"]) fun _ _ _ _ _ _ us hl => match us, hl with | [_, _, _], _ => rfl
  obtain ⟨fd_check_length, F0_check_length⟩ := c.t.d.def_ 23 (d := dd_check_length) rfl
  have F_check_length : Fun K "check_length" "check_length" s_check_length (He.ga K "check_length") fd_check_length := fun_of F0_check_length
  have k_check_length := F_check_length.kp
  have a_check_length : PySem.W.nsIn K mainGlobals "check_length" = some (some (.ref (He.ga K "check_length"))) := He.eqO_ok (c.t.d.fact 23 (f := .glo "check_length") rfl)
  have b_check_length := F_check_length.binds (ps := ["thing", "part", "least", "most"]) fun _ _ _ _ _ _ us hl => match us, hl with | [_, _, _, _], _ => rfl
  obtain ⟨fd_check_forms, F0_check_forms⟩ := c.t.d.def_ 24 (d := dd_check_forms) rfl
  have F_check_forms : Fun K "check_forms" "check_forms" s_check_forms (He.ga K "check_forms") fd_check_forms := fun_of F0_check_forms
  have k_check_forms := F_check_forms.kp
  have a_check_forms : PySem.W.nsIn K mainGlobals "check_forms" = some (some (.ref (He.ga K "check_forms"))) := He.eqO_ok (c.t.d.fact 24 (f := .glo "check_forms") rfl)
  have b_check_forms := F_check_forms.binds (ps := ["forms"]) fun _ _ _ _ _ _ us hl => match us, hl with | [_], _ => rfl
  obtain ⟨fd_is_hold, F0_is_hold⟩ := c.t.d.def_ 25 (d := dd_is_hold) rfl
  have F_is_hold : Fun K "is_hold" "is_hold" s_is_hold (He.ga K "is_hold") fd_is_hold := fun_of F0_is_hold
  have k_is_hold := F_is_hold.kp
  have a_is_hold : PySem.W.nsIn K mainGlobals "is_hold" = some (some (.ref (He.ga K "is_hold"))) := He.eqO_ok (c.t.d.fact 25 (f := .glo "is_hold") rfl)
  have b_is_hold := F_is_hold.binds (ps := ["thing", "forms"]) fun _ _ _ _ _ _ us hl => match us, hl with | [_, _], _ => rfl
  obtain ⟨fd_check_holds, F0_check_holds⟩ := c.t.d.def_ 26 (d := dd_check_holds) rfl
  have F_check_holds : Fun K "check_holds" "check_holds" s_check_holds (He.ga K "check_holds") fd_check_holds := fun_of F0_check_holds
  have k_check_holds := F_check_holds.kp
  have a_check_holds : PySem.W.nsIn K mainGlobals "check_holds" = some (some (.ref (He.ga K "check_holds"))) := He.eqO_ok (c.t.d.fact 26 (f := .glo "check_holds") rfl)
  have b_check_holds := F_check_holds.binds (ps := ["holds", "forms"]) fun _ _ _ _ _ _ us hl => match us, hl with | [_, _], _ => rfl
  obtain ⟨fd_checked_points, F0_checked_points⟩ := c.t.d.def_ 27 (d := dd_checked_points) rfl
  have F_checked_points : Fun K "checked_points" "checked_points" s_checked_points (He.ga K "checked_points") fd_checked_points := fun_of F0_checked_points
  have k_checked_points := F_checked_points.kp
  have a_checked_points : PySem.W.nsIn K mainGlobals "checked_points" = some (some (.ref (He.ga K "checked_points"))) := He.eqO_ok (c.t.d.fact 27 (f := .glo "checked_points") rfl)
  have b_checked_points := F_checked_points.binds (ps := ["rows", "given"]) fun _ _ _ _ _ _ us hl => match us, hl with | [_, _], _ => rfl
  obtain ⟨fd_check_links, F0_check_links⟩ := c.t.d.def_ 28 (d := dd_check_links) rfl
  have F_check_links : Fun K "check_links" "check_links" s_check_links (He.ga K "check_links") fd_check_links := fun_of F0_check_links
  have k_check_links := F_check_links.kp
  have a_check_links : PySem.W.nsIn K mainGlobals "check_links" = some (some (.ref (He.ga K "check_links"))) := He.eqO_ok (c.t.d.fact 28 (f := .glo "check_links") rfl)
  have b_check_links := F_check_links.binds (ps := ["holds", "rows"]) fun _ _ _ _ _ _ us hl => match us, hl with | [_, _], _ => rfl
  obtain ⟨fd_enter_form, F0_enter_form⟩ := c.t.d.def_ 29 (d := dd_enter_form) rfl
  have F_enter_form : Fun K "enter_form" "enter_form" s_enter_form (He.ga K "enter_form") fd_enter_form := fun_of F0_enter_form
  have k_enter_form := F_enter_form.kp
  have a_enter_form : PySem.W.nsIn K mainGlobals "enter_form" = some (some (.ref (He.ga K "enter_form"))) := He.eqO_ok (c.t.d.fact 29 (f := .glo "enter_form") rfl)
  have b_enter_form := F_enter_form.binds (ps := ["net"]) fun _ _ _ _ _ _ us hl => match us, hl with | [_], _ => rfl
  obtain ⟨fd_swept, F0_swept⟩ := c.t.d.def_ 30 (d := dd_swept) rfl
  have F_swept : Fun K "swept" "swept" s_swept (He.ga K "swept") fd_swept := fun_of F0_swept
  have k_swept := F_swept.kp
  have a_swept : PySem.W.nsIn K mainGlobals "swept" = some (some (.ref (He.ga K "swept"))) := He.eqO_ok (c.t.d.fact 30 (f := .glo "swept") rfl)
  have b_swept := F_swept.binds (ps := ["net", "heard", "held", "rule"]) fun _ _ _ _ _ _ us hl => match us, hl with | [_, _, _, _], _ => rfl
  obtain ⟨fd_is_state, F0_is_state⟩ := c.t.d.def_ 31 (d := dd_is_state) rfl
  have F_is_state : Fun K "is_state" "is_state" s_is_state (He.ga K "is_state") fd_is_state := fun_of F0_is_state
  have k_is_state := F_is_state.kp
  have a_is_state : PySem.W.nsIn K mainGlobals "is_state" = some (some (.ref (He.ga K "is_state"))) := He.eqO_ok (c.t.d.fact 31 (f := .glo "is_state") rfl)
  have b_is_state := F_is_state.binds (ps := ["net", "thing"]) fun _ _ _ _ _ _ us hl => match us, hl with | [_, _], _ => rfl
  obtain ⟨fd_check_state, F0_check_state⟩ := c.t.d.def_ 32 (d := dd_check_state) rfl
  have F_check_state : Fun K "check_state" "check_state" s_check_state (He.ga K "check_state") fd_check_state := fun_of F0_check_state
  have k_check_state := F_check_state.kp
  have a_check_state : PySem.W.nsIn K mainGlobals "check_state" = some (some (.ref (He.ga K "check_state"))) := He.eqO_ok (c.t.d.fact 32 (f := .glo "check_state") rfl)
  have b_check_state := F_check_state.binds (ps := ["net", "state"]) fun _ _ _ _ _ _ us hl => match us, hl with | [_, _], _ => rfl
  obtain ⟨fd_check_word, F0_check_word⟩ := c.t.d.def_ 33 (d := dd_check_word) rfl
  have F_check_word : Fun K "check_word" "check_word" s_check_word (He.ga K "check_word") fd_check_word := fun_of F0_check_word
  have k_check_word := F_check_word.kp
  have a_check_word : PySem.W.nsIn K mainGlobals "check_word" = some (some (.ref (He.ga K "check_word"))) := He.eqO_ok (c.t.d.fact 33 (f := .glo "check_word") rfl)
  have b_check_word := F_check_word.binds (ps := ["net", "word"]) fun _ _ _ _ _ _ us hl => match us, hl with | [_, _], _ => rfl
  obtain ⟨fd_check_run, F0_check_run⟩ := c.t.d.def_ 34 (d := dd_check_run) rfl
  have F_check_run : Fun K "check_run" "check_run" s_check_run (He.ga K "check_run") fd_check_run := fun_of F0_check_run
  have k_check_run := F_check_run.kp
  have a_check_run : PySem.W.nsIn K mainGlobals "check_run" = some (some (.ref (He.ga K "check_run"))) := He.eqO_ok (c.t.d.fact 34 (f := .glo "check_run") rfl)
  have b_check_run := F_check_run.binds (ps := ["net", "words"]) fun _ _ _ _ _ _ us hl => match us, hl with | [_, _], _ => rfl
  obtain ⟨fd_first_state, F0_first_state⟩ := c.t.d.def_ 35 (d := dd_first_state) rfl
  have F_first_state : Fun K "first_state" "first_state" s_first_state (He.ga K "first_state") fd_first_state := fun_of F0_first_state
  have k_first_state := F_first_state.kp
  have a_first_state : PySem.W.nsIn K mainGlobals "first_state" = some (some (.ref (He.ga K "first_state"))) := He.eqO_ok (c.t.d.fact 35 (f := .glo "first_state") rfl)
  have b_first_state := F_first_state.binds (ps := ["net", "state"]) fun _ _ _ _ _ _ us hl => match us, hl with | [_, _], _ => rfl
  obtain ⟨fd_sum_number, F0_sum_number⟩ := c.t.d.def_ 36 (d := dd_sum_number) rfl
  have F_sum_number : Fun K "sum_number" "sum_number" s_sum_number (He.ga K "sum_number") fd_sum_number := fun_of F0_sum_number
  have k_sum_number := F_sum_number.kp
  have a_sum_number : PySem.W.nsIn K mainGlobals "sum_number" = some (some (.ref (He.ga K "sum_number"))) := He.eqO_ok (c.t.d.fact 36 (f := .glo "sum_number") rfl)
  have b_sum_number := F_sum_number.binds (ps := ["row", "numbers", "points"]) fun _ _ _ _ _ _ us hl => match us, hl with | [_, _, _], _ => rfl
  obtain ⟨fd_number_of_row, F0_number_of_row⟩ := c.t.d.def_ 37 (d := dd_number_of_row) rfl
  have F_number_of_row : Fun K "number_of_row" "number_of_row" s_number_of_row (He.ga K "number_of_row") fd_number_of_row := fun_of F0_number_of_row
  have k_number_of_row := F_number_of_row.kp
  have a_number_of_row : PySem.W.nsIn K mainGlobals "number_of_row" = some (some (.ref (He.ga K "number_of_row"))) := He.eqO_ok (c.t.d.fact 37 (f := .glo "number_of_row") rfl)
  have b_number_of_row := F_number_of_row.binds (ps := ["row", "numbers", "forms", "points"]) fun _ _ _ _ _ _ us hl => match us, hl with | [_, _, _, _], _ => rfl
  obtain ⟨fd_state_behind, F0_state_behind⟩ := c.t.d.def_ 38 (d := dd_state_behind) rfl
  have F_state_behind : Fun K "state_behind" "state_behind" s_state_behind (He.ga K "state_behind") fd_state_behind := fun_of F0_state_behind
  have k_state_behind := F_state_behind.kp
  have a_state_behind : PySem.W.nsIn K mainGlobals "state_behind" = some (some (.ref (He.ga K "state_behind"))) := He.eqO_ok (c.t.d.fact 38 (f := .glo "state_behind") rfl)
  have b_state_behind := F_state_behind.binds (ps := ["net", "numbers"]) fun _ _ _ _ _ _ us hl => match us, hl with | [_, _], _ => rfl
  obtain ⟨fd_turn_of, F0_turn_of⟩ := c.t.d.def_ 39 (d := dd_turn_of) rfl
  have F_turn_of : Fun K "turn_of" "turn_of" s_turn_of (He.ga K "turn_of") fd_turn_of := fun_of F0_turn_of
  have k_turn_of := F_turn_of.kp
  have a_turn_of : PySem.W.nsIn K mainGlobals "turn_of" = some (some (.ref (He.ga K "turn_of"))) := He.eqO_ok (c.t.d.fact 39 (f := .glo "turn_of") rfl)
  have b_turn_of := F_turn_of.binds (ps := ["net", "state", "word"]) fun _ _ _ _ _ _ us hl => match us, hl with | [_, _, _], _ => rfl
  obtain ⟨fd_went_over, F0_went_over⟩ := c.t.d.def_ 40 (d := dd_went_over) rfl
  have F_went_over : Fun K "went_over" "went_over" s_went_over (He.ga K "went_over") fd_went_over := fun_of F0_went_over
  have k_went_over := F_went_over.kp
  have a_went_over : PySem.W.nsIn K mainGlobals "went_over" = some (some (.ref (He.ga K "went_over"))) := He.eqO_ok (c.t.d.fact 40 (f := .glo "went_over") rfl)
  have b_went_over := F_went_over.binds (ps := ["net", "row", "numbers"]) fun _ _ _ _ _ _ us hl => match us, hl with | [_, _, _], _ => rfl
  obtain ⟨fd_turned, F0_turned⟩ := c.t.d.def_ 41 (d := dd_turned) rfl
  have F_turned : Fun K "turned" "turned" s_turned (He.ga K "turned") fd_turned := fun_of F0_turned
  have k_turned := F_turned.kp
  have a_turned : PySem.W.nsIn K mainGlobals "turned" = some (some (.ref (He.ga K "turned"))) := He.eqO_ok (c.t.d.fact 41 (f := .glo "turned") rfl)
  have b_turned := F_turned.binds (ps := ["net", "state", "word"]) fun _ _ _ _ _ _ us hl => match us, hl with | [_, _, _], _ => rfl
  obtain ⟨fd_overs, F0_overs⟩ := c.t.d.def_ 42 (d := dd_overs) rfl
  have F_overs : Fun K "overs" "overs" s_overs (He.ga K "overs") fd_overs := fun_of F0_overs
  have k_overs := F_overs.kp
  have a_overs : PySem.W.nsIn K mainGlobals "overs" = some (some (.ref (He.ga K "overs"))) := He.eqO_ok (c.t.d.fact 42 (f := .glo "overs") rfl)
  have b_overs := F_overs.binds (ps := ["net", "numbers"]) fun _ _ _ _ _ _ us hl => match us, hl with | [_, _], _ => rfl
  obtain ⟨fd_run, F0_run⟩ := c.t.d.def_ 43 (d := dd_run) rfl
  have F_run : FunD K "run" "run" (defArgs s_run) (defBody s_run) (defScope s_run) [V.non] [] (He.ga K "run") fd_run := F0_run
  have k_run := F_run.kp
  have a_run : PySem.W.nsIn K mainGlobals "run" = some (some (.ref (He.ga K "run"))) := He.eqO_ok (c.t.d.fact 43 (f := .glo "run") rfl)
  obtain ⟨ds_run2, dv_run2, b_run2⟩ := F_run.binds1 (ps := ["net", "words", "state"]) 2 0 (by simp) rfl fun _ _ _ _ _ _ _ us its h1 h2 => match us, its, h1, h2 with | [_, _], [_], _, _ => ⟨_, rfl, rfl⟩
  obtain ⟨ds_run3, dv_run3, b_run3⟩ := F_run.binds1 (ps := ["net", "words", "state"]) 3 1 (by simp) rfl fun _ _ _ _ _ _ _ us its h1 h2 => match us, its, h1, h2 with | [_, _, _], [_], _, _ => ⟨_, rfl, rfl⟩
  cases dv_run3
  obtain ⟨fd__law_cell_at, F0__law_cell_at⟩ := c.t.d.def_ 44 (d := dd__law_cell_at) rfl
  have F__law_cell_at : Fun K "_law_cell_at" "_law_cell_at" s__law_cell_at (He.ga K "_law_cell_at") fd__law_cell_at := fun_of F0__law_cell_at
  have k__law_cell_at := F__law_cell_at.kp
  have a__law_cell_at : PySem.W.nsIn K mainGlobals "_law_cell_at" = some (some (.ref (He.ga K "_law_cell_at"))) := He.eqO_ok (c.t.d.fact 44 (f := .glo "_law_cell_at") rfl)
  have b__law_cell_at := F__law_cell_at.binds (ps := ["_law_script", "_law_k"]) fun _ _ _ _ _ _ us hl => match us, hl with | [_, _], _ => rfl
  obtain ⟨fd__law_well, F0__law_well⟩ := c.t.d.def_ 45 (d := dd__law_well) rfl
  have F__law_well : Fun K "_law_well" "_law_well" s__law_well (He.ga K "_law_well") fd__law_well := fun_of F0__law_well
  have k__law_well := F__law_well.kp
  have a__law_well : PySem.W.nsIn K mainGlobals "_law_well" = some (some (.ref (He.ga K "_law_well"))) := He.eqO_ok (c.t.d.fact 45 (f := .glo "_law_well") rfl)
  have b__law_well := F__law_well.binds (ps := ["_law_cell"]) fun _ _ _ _ _ _ us hl => match us, hl with | [_], _ => rfl
  obtain ⟨fd__law_draw, F0__law_draw⟩ := c.t.d.def_ 46 (d := dd__law_draw) rfl
  have F__law_draw : Fun K "_law_draw" "_law_draw" s__law_draw (He.ga K "_law_draw") fd__law_draw := fun_of F0__law_draw
  have k__law_draw := F__law_draw.kp
  have a__law_draw : PySem.W.nsIn K mainGlobals "_law_draw" = some (some (.ref (He.ga K "_law_draw"))) := He.eqO_ok (c.t.d.fact 46 (f := .glo "_law_draw") rfl)
  have b__law_draw := F__law_draw.binds (ps := ["_law_well_here", "_law_many"]) fun _ _ _ _ _ _ us hl => match us, hl with | [_, _], _ => rfl
  obtain ⟨fd__law_form, F0__law_form⟩ := c.t.d.def_ 47 (d := dd__law_form) rfl
  have F__law_form : Fun K "_law_form" "_law_form" s__law_form (He.ga K "_law_form") fd__law_form := fun_of F0__law_form
  have k__law_form := F__law_form.kp
  have a__law_form : PySem.W.nsIn K mainGlobals "_law_form" = some (some (.ref (He.ga K "_law_form"))) := He.eqO_ok (c.t.d.fact 47 (f := .glo "_law_form") rfl)
  have b__law_form := F__law_form.binds (ps := ["_law_well_here", "_law_free", "_law_reach"]) fun _ _ _ _ _ _ us hl => match us, hl with | [_, _, _], _ => rfl
  obtain ⟨fd__law_word, F0__law_word⟩ := c.t.d.def_ 48 (d := dd__law_word) rfl
  have F__law_word : Fun K "_law_word" "_law_word" s__law_word (He.ga K "_law_word") fd__law_word := fun_of F0__law_word
  have k__law_word := F__law_word.kp
  have a__law_word : PySem.W.nsIn K mainGlobals "_law_word" = some (some (.ref (He.ga K "_law_word"))) := He.eqO_ok (c.t.d.fact 48 (f := .glo "_law_word") rfl)
  have b__law_word := F__law_word.binds (ps := ["_law_well_here", "_law_form_here"]) fun _ _ _ _ _ _ us hl => match us, hl with | [_, _], _ => rfl
  obtain ⟨fd__law_row, F0__law_row⟩ := c.t.d.def_ 49 (d := dd__law_row) rfl
  have F__law_row : Fun K "_law_row" "_law_row" s__law_row (He.ga K "_law_row") fd__law_row := fun_of F0__law_row
  have k__law_row := F__law_row.kp
  have a__law_row : PySem.W.nsIn K mainGlobals "_law_row" = some (some (.ref (He.ga K "_law_row"))) := He.eqO_ok (c.t.d.fact 49 (f := .glo "_law_row") rfl)
  have b__law_row := F__law_row.binds (ps := ["_law_well_here", "_law_count", "_law_at", "_law_free", "_law_reach", "_law_held"]) fun _ _ _ _ _ _ us hl => match us, hl with | [_, _, _, _, _, _], _ => rfl
  obtain ⟨fd__law_begin, F0__law_begin⟩ := c.t.d.def_ 50 (d := dd__law_begin) rfl
  have F__law_begin : Fun K "_law_begin" "_law_begin" s__law_begin (He.ga K "_law_begin") fd__law_begin := fun_of F0__law_begin
  have k__law_begin := F__law_begin.kp
  have a__law_begin : PySem.W.nsIn K mainGlobals "_law_begin" = some (some (.ref (He.ga K "_law_begin"))) := He.eqO_ok (c.t.d.fact 50 (f := .glo "_law_begin") rfl)
  have b__law_begin := F__law_begin.binds (ps := ["_law_well_here", "_law_held"]) fun _ _ _ _ _ _ us hl => match us, hl with | [_, _], _ => rfl
  obtain ⟨fd__law_mixed, F0__law_mixed⟩ := c.t.d.def_ 51 (d := dd__law_mixed) rfl
  have F__law_mixed : Fun K "_law_mixed" "_law_mixed" s__law_mixed (He.ga K "_law_mixed") fd__law_mixed := fun_of F0__law_mixed
  have k__law_mixed := F__law_mixed.kp
  have a__law_mixed : PySem.W.nsIn K mainGlobals "_law_mixed" = some (some (.ref (He.ga K "_law_mixed"))) := He.eqO_ok (c.t.d.fact 51 (f := .glo "_law_mixed") rfl)
  have b__law_mixed := F__law_mixed.binds (ps := ["_law_well_here", "_law_made_here", "_law_reach"]) fun _ _ _ _ _ _ us hl => match us, hl with | [_, _, _], _ => rfl
  obtain ⟨fd__law_link, F0__law_link⟩ := c.t.d.def_ 52 (d := dd__law_link) rfl
  have F__law_link : Fun K "_law_link" "_law_link" s__law_link (He.ga K "_law_link") fd__law_link := fun_of F0__law_link
  have k__law_link := F__law_link.kp
  have a__law_link : PySem.W.nsIn K mainGlobals "_law_link" = some (some (.ref (He.ga K "_law_link"))) := He.eqO_ok (c.t.d.fact 52 (f := .glo "_law_link") rfl)
  have b__law_link := F__law_link.binds (ps := ["_law_well_here", "_law_made_here", "_law_kind", "_law_last"]) fun _ _ _ _ _ _ us hl => match us, hl with | [_, _, _, _], _ => rfl
  obtain ⟨fd__law_net, F0__law_net⟩ := c.t.d.def_ 53 (d := dd__law_net) rfl
  have F__law_net : Fun K "_law_net" "_law_net" s__law_net (He.ga K "_law_net") fd__law_net := fun_of F0__law_net
  have k__law_net := F__law_net.kp
  have a__law_net : PySem.W.nsIn K mainGlobals "_law_net" = some (some (.ref (He.ga K "_law_net"))) := He.eqO_ok (c.t.d.fact 53 (f := .glo "_law_net") rfl)
  have b__law_net := F__law_net.binds (ps := ["_law_well_here"]) fun _ _ _ _ _ _ us hl => match us, hl with | [_], _ => rfl
  obtain ⟨fd__law_made, F0__law_made⟩ := c.t.d.def_ 54 (d := dd__law_made) rfl
  have F__law_made : Fun K "_law_made" "_law_made" s__law_made (He.ga K "_law_made") fd__law_made := fun_of F0__law_made
  have k__law_made := F__law_made.kp
  have a__law_made : PySem.W.nsIn K mainGlobals "_law_made" = some (some (.ref (He.ga K "_law_made"))) := He.eqO_ok (c.t.d.fact 54 (f := .glo "_law_made") rfl)
  have b__law_made := F__law_made.binds (ps := ["_law_house"]) fun _ _ _ _ _ _ us hl => match us, hl with | [_], _ => rfl
  obtain ⟨fd__law_bad_word, F0__law_bad_word⟩ := c.t.d.def_ 55 (d := dd__law_bad_word) rfl
  have F__law_bad_word : Fun K "_law_bad_word" "_law_bad_word" s__law_bad_word (He.ga K "_law_bad_word") fd__law_bad_word := fun_of F0__law_bad_word
  have k__law_bad_word := F__law_bad_word.kp
  have a__law_bad_word : PySem.W.nsIn K mainGlobals "_law_bad_word" = some (some (.ref (He.ga K "_law_bad_word"))) := He.eqO_ok (c.t.d.fact 55 (f := .glo "_law_bad_word") rfl)
  have b__law_bad_word := F__law_bad_word.binds (ps := ["_law_well_here", "_law_form_here"]) fun _ _ _ _ _ _ us hl => match us, hl with | [_, _], _ => rfl
  obtain ⟨fd__law_bad_state, F0__law_bad_state⟩ := c.t.d.def_ 56 (d := dd__law_bad_state) rfl
  have F__law_bad_state : Fun K "_law_bad_state" "_law_bad_state" s__law_bad_state (He.ga K "_law_bad_state") fd__law_bad_state := fun_of F0__law_bad_state
  have k__law_bad_state := F__law_bad_state.kp
  have a__law_bad_state : PySem.W.nsIn K mainGlobals "_law_bad_state" = some (some (.ref (He.ga K "_law_bad_state"))) := He.eqO_ok (c.t.d.fact 56 (f := .glo "_law_bad_state") rfl)
  have b__law_bad_state := F__law_bad_state.binds (ps := ["_law_well_here", "_law_parts", "_law_stand"]) fun _ _ _ _ _ _ us hl => match us, hl with | [_, _, _], _ => rfl
  obtain ⟨fd__law_said, F0__law_said⟩ := c.t.d.def_ 57 (d := dd__law_said) rfl
  have F__law_said : Fun K "_law_said" "_law_said" s__law_said (He.ga K "_law_said") fd__law_said := fun_of F0__law_said
  have k__law_said := F__law_said.kp
  have a__law_said : PySem.W.nsIn K mainGlobals "_law_said" = some (some (.ref (He.ga K "_law_said"))) := He.eqO_ok (c.t.d.fact 57 (f := .glo "_law_said") rfl)
  have b__law_said := F__law_said.binds (ps := ["_law_deed"]) fun _ _ _ _ _ _ us hl => match us, hl with | [_], _ => rfl
  obtain ⟨fd__law_machine_right, F0__law_machine_right⟩ := c.t.d.def_ 58 (d := dd__law_machine_right) rfl
  have F__law_machine_right : Fun K "_law_machine_right" "_law_machine_right" s__law_machine_right (He.ga K "_law_machine_right") fd__law_machine_right := fun_of F0__law_machine_right
  have k__law_machine_right := F__law_machine_right.kp
  have a__law_machine_right : PySem.W.nsIn K mainGlobals "_law_machine_right" = some (some (.ref (He.ga K "_law_machine_right"))) := He.eqO_ok (c.t.d.fact 58 (f := .glo "_law_machine_right") rfl)
  have b__law_machine_right := F__law_machine_right.binds (ps := ["_law_house", "_law_stand", "_law_entry", "_law_bad", "_law_nowhere"]) fun _ _ _ _ _ _ us hl => match us, hl with | [_, _, _, _, _], _ => rfl
  obtain ⟨fd_law, F0_law⟩ := c.t.d.def_ 59 (d := dd_law) rfl
  have F_law : Fun K "law" "law" s_law (He.ga K "law") fd_law := fun_of F0_law
  have k_law := F_law.kp
  have a_law : PySem.W.nsIn K mainGlobals "law" = some (some (.ref (He.ga K "law"))) := He.eqO_ok (c.t.d.fact 59 (f := .glo "law") rfl)
  have b_law := F_law.binds (ps := ["_law_script"]) fun _ _ _ _ _ _ us hl => match us, hl with | [_], _ => rfl
  have FC_law : FunC K "law" s_law (He.ga K "law") fd_law (He.cT K ("law", none)).1 := funC_of (p := ("law", none)) F0_law
  have FC__law_machine_right : FunC K "_law_machine_right" s__law_machine_right (He.ga K "_law_machine_right") fd__law_machine_right (He.cT K ("_law_machine_right", none)).1 := funC_of (p := ("_law_machine_right", none)) F0__law_machine_right
  have nP : (He.cT K ("law", none)).2 ≠ (He.cT K ("_law_machine_right", none)).2 := of_decide_eq_true (ex_at c.more (i := 0) (b := decide ((He.cT K ("law", none)).2 ≠ (He.cT K ("_law_machine_right", none)).2)) rfl)
  have aC_C : PySem.W.nsIn K mainGlobals "Form" = some (some (.ref C)) := by
    rw [← e_C]
    exact He.eqO_ok (c.t.d.fact 60 (f := .glo "Form") rfl)
  have cl_C : Cls K C := by
    rw [← e_C]
    exact He.cls_ok (c.t.d.fact 61 (f := .cls "Form") rfl)
  have pg_C := cl_C.1
  have hd_C := cl_C.2
  have po_C := cl_C.3
  have sa_C := cl_C.4
  have mk0_C : Mk K C (He.ma K (He.ga K "Form") "__init__") := by
    rw [← e_C]
    exact He.mkr_ok (c.t.d.fact 62 (f := .mkr "Form") rfl)
  have mk_C := mk0_C.1
  have kc_C := mk0_C.4
  have n_C_width : NoAttr K C "width" := by
    rw [← e_C]
    exact He.noat_ok (c.t.d.fact 63 (f := .noat "Form" "width") rfl)
  have n_C_point : NoAttr K C "point" := by
    rw [← e_C]
    exact He.noat_ok (c.t.d.fact 64 (f := .noat "Form" "point") rfl)
  have n_C_manner : NoAttr K C "manner" := by
    rw [← e_C]
    exact He.noat_ok (c.t.d.fact 65 (f := .noat "Form" "manner") rfl)
  have n_C_ends : NoAttr K C "ends" := by
    rw [← e_C]
    exact He.noat_ok (c.t.d.fact 66 (f := .noat "Form" "ends") rfl)
  have aC_CN : PySem.W.nsIn K mainGlobals "Net" = some (some (.ref CN)) := by
    rw [← e_CN]
    exact He.eqO_ok (c.t.d.fact 67 (f := .glo "Net") rfl)
  have cl_CN : Cls K CN := by
    rw [← e_CN]
    exact He.cls_ok (c.t.d.fact 68 (f := .cls "Net") rfl)
  have pg_CN := cl_CN.1
  have hd_CN := cl_CN.2
  have po_CN := cl_CN.3
  have sa_CN := cl_CN.4
  have mk0_CN : Mk K CN (He.ma K (He.ga K "Net") "__init__") := by
    rw [← e_CN]
    exact He.mkr_ok (c.t.d.fact 69 (f := .mkr "Net") rfl)
  have mk_CN := mk0_CN.1
  have kc_CN := mk0_CN.4
  have n_CN_form_list : NoAttr K CN "form_list" := by
    rw [← e_CN]
    exact He.noat_ok (c.t.d.fact 70 (f := .noat "Net" "form_list") rfl)
  have n_CN_enters_at : NoAttr K CN "enters_at" := by
    rw [← e_CN]
    exact He.noat_ok (c.t.d.fact 71 (f := .noat "Net" "enters_at") rfl)
  have n_CN_row_list : NoAttr K CN "row_list" := by
    rw [← e_CN]
    exact He.noat_ok (c.t.d.fact 72 (f := .noat "Net" "row_list") rfl)
  have n_CN_hold_list : NoAttr K CN "hold_list" := by
    rw [← e_CN]
    exact He.noat_ok (c.t.d.fact 73 (f := .noat "Net" "hold_list") rfl)
  have n_CN_out_at : NoAttr K CN "out_at" := by
    rw [← e_CN]
    exact He.noat_ok (c.t.d.fact 74 (f := .noat "Net" "out_at") rfl)
  have n_CN_point_list : NoAttr K CN "point_list" := by
    rw [← e_CN]
    exact He.noat_ok (c.t.d.fact 75 (f := .noat "Net" "point_list") rfl)
  obtain ⟨fd_Form_least, F0_Form_least⟩ := c.t.d.def_ 60 (d := dd_Form_least) rfl
  have F_Form_least : Fun K "least" "Form.least" s_Form_least (He.ma K (He.ga K "Form") "least") fd_Form_least := fun_of F0_Form_least
  have k_Form_least := F_Form_least.kp
  have m0_Form_least : Meth K C "least" (He.ma K (He.ga K "Form") "least") := by
    rw [← e_C]
    exact He.meth_ok (c.t.d.fact 76 (f := .meth "Form" "least") rfl)
  have a_Form_least := m0_Form_least.1
  have i_Form_least := m0_Form_least.2
  have b_Form_least := F_Form_least.binds (ps := ["self"]) fun _ _ _ _ _ _ us hl => match us, hl with | [_], _ => rfl
  obtain ⟨fd_Form_greatest, F0_Form_greatest⟩ := c.t.d.def_ 61 (d := dd_Form_greatest) rfl
  have F_Form_greatest : Fun K "greatest" "Form.greatest" s_Form_greatest (He.ma K (He.ga K "Form") "greatest") fd_Form_greatest := fun_of F0_Form_greatest
  have k_Form_greatest := F_Form_greatest.kp
  have m0_Form_greatest : Meth K C "greatest" (He.ma K (He.ga K "Form") "greatest") := by
    rw [← e_C]
    exact He.meth_ok (c.t.d.fact 77 (f := .meth "Form" "greatest") rfl)
  have a_Form_greatest := m0_Form_greatest.1
  have i_Form_greatest := m0_Form_greatest.2
  have b_Form_greatest := F_Form_greatest.binds (ps := ["self"]) fun _ _ _ _ _ _ us hl => match us, hl with | [_], _ => rfl
  obtain ⟨fd_Form_has, F0_Form_has⟩ := c.t.d.def_ 62 (d := dd_Form_has) rfl
  have F_Form_has : Fun K "has" "Form.has" s_Form_has (He.ma K (He.ga K "Form") "has") fd_Form_has := fun_of F0_Form_has
  have k_Form_has := F_Form_has.kp
  have m0_Form_has : Meth K C "has" (He.ma K (He.ga K "Form") "has") := by
    rw [← e_C]
    exact He.meth_ok (c.t.d.fact 78 (f := .meth "Form" "has") rfl)
  have a_Form_has := m0_Form_has.1
  have i_Form_has := m0_Form_has.2
  have b_Form_has := F_Form_has.binds (ps := ["self", "thing"]) fun _ _ _ _ _ _ us hl => match us, hl with | [_, _], _ => rfl
  obtain ⟨fd_Form_word_for, F0_Form_word_for⟩ := c.t.d.def_ 63 (d := dd_Form_word_for) rfl
  have F_Form_word_for : Fun K "word_for" "Form.word_for" s_Form_word_for (He.ma K (He.ga K "Form") "word_for") fd_Form_word_for := fun_of F0_Form_word_for
  have k_Form_word_for := F_Form_word_for.kp
  have m0_Form_word_for : Meth K C "word_for" (He.ma K (He.ga K "Form") "word_for") := by
    rw [← e_C]
    exact He.meth_ok (c.t.d.fact 79 (f := .meth "Form" "word_for") rfl)
  have a_Form_word_for := m0_Form_word_for.1
  have i_Form_word_for := m0_Form_word_for.2
  have b_Form_word_for := F_Form_word_for.binds (ps := ["self", "number"]) fun _ _ _ _ _ _ us hl => match us, hl with | [_, _], _ => rfl
  obtain ⟨fd_Form_ended, F0_Form_ended⟩ := c.t.d.def_ 64 (d := dd_Form_ended) rfl
  have F_Form_ended : Fun K "ended" "Form.ended" s_Form_ended (He.ma K (He.ga K "Form") "ended") fd_Form_ended := fun_of F0_Form_ended
  have k_Form_ended := F_Form_ended.kp
  have m0_Form_ended : Meth K C "ended" (He.ma K (He.ga K "Form") "ended") := by
    rw [← e_C]
    exact He.meth_ok (c.t.d.fact 80 (f := .meth "Form" "ended") rfl)
  have a_Form_ended := m0_Form_ended.1
  have i_Form_ended := m0_Form_ended.2
  have b_Form_ended := F_Form_ended.binds (ps := ["self", "number"]) fun _ _ _ _ _ _ us hl => match us, hl with | [_, _], _ => rfl
  obtain ⟨fd_Form_kept_at, F0_Form_kept_at⟩ := c.t.d.def_ 65 (d := dd_Form_kept_at) rfl
  have F_Form_kept_at : Fun K "kept_at" "Form.kept_at" s_Form_kept_at (He.ma K (He.ga K "Form") "kept_at") fd_Form_kept_at := fun_of F0_Form_kept_at
  have k_Form_kept_at := F_Form_kept_at.kp
  have m0_Form_kept_at : Meth K C "kept_at" (He.ma K (He.ga K "Form") "kept_at") := by
    rw [← e_C]
    exact He.meth_ok (c.t.d.fact 81 (f := .meth "Form" "kept_at") rfl)
  have a_Form_kept_at := m0_Form_kept_at.1
  have i_Form_kept_at := m0_Form_kept_at.2
  have b_Form_kept_at := F_Form_kept_at.binds (ps := ["self", "number", "point"]) fun _ _ _ _ _ _ us hl => match us, hl with | [_, _, _], _ => rfl
  obtain ⟨fd_Form___eq__, F0_Form___eq__⟩ := c.t.d.def_ 66 (d := dd_Form___eq__) rfl
  have F_Form___eq__ : Fun K "__eq__" "Form.__eq__" s_Form___eq__ (He.ma K (He.ga K "Form") "__eq__") fd_Form___eq__ := fun_of F0_Form___eq__
  have k_Form___eq__ := F_Form___eq__.kp
  have m0_Form___eq__ : Meth K C "__eq__" (He.ma K (He.ga K "Form") "__eq__") := by
    rw [← e_C]
    exact He.meth_ok (c.t.d.fact 82 (f := .meth "Form" "__eq__") rfl)
  have a_Form___eq__ := m0_Form___eq__.1
  have i_Form___eq__ := m0_Form___eq__.2
  have b_Form___eq__ := F_Form___eq__.binds (ps := ["self", "other"]) fun _ _ _ _ _ _ us hl => match us, hl with | [_, _], _ => rfl
  obtain ⟨fd_Net_forms, F0_Net_forms⟩ := c.t.d.def_ 67 (d := dd_Net_forms) rfl
  have F_Net_forms : Fun K "forms" "Net.forms" s_Net_forms (He.ma K (He.ga K "Net") "forms") fd_Net_forms := fun_of F0_Net_forms
  have k_Net_forms := F_Net_forms.kp
  have m0_Net_forms : Meth K CN "forms" (He.ma K (He.ga K "Net") "forms") := by
    rw [← e_CN]
    exact He.meth_ok (c.t.d.fact 83 (f := .meth "Net" "forms") rfl)
  have a_Net_forms := m0_Net_forms.1
  have i_Net_forms := m0_Net_forms.2
  have b_Net_forms := F_Net_forms.binds (ps := ["self"]) fun _ _ _ _ _ _ us hl => match us, hl with | [_], _ => rfl
  obtain ⟨fd_Net_rows, F0_Net_rows⟩ := c.t.d.def_ 68 (d := dd_Net_rows) rfl
  have F_Net_rows : Fun K "rows" "Net.rows" s_Net_rows (He.ma K (He.ga K "Net") "rows") fd_Net_rows := fun_of F0_Net_rows
  have k_Net_rows := F_Net_rows.kp
  have m0_Net_rows : Meth K CN "rows" (He.ma K (He.ga K "Net") "rows") := by
    rw [← e_CN]
    exact He.meth_ok (c.t.d.fact 84 (f := .meth "Net" "rows") rfl)
  have a_Net_rows := m0_Net_rows.1
  have i_Net_rows := m0_Net_rows.2
  have b_Net_rows := F_Net_rows.binds (ps := ["self"]) fun _ _ _ _ _ _ us hl => match us, hl with | [_], _ => rfl
  obtain ⟨fd_Net_holds, F0_Net_holds⟩ := c.t.d.def_ 69 (d := dd_Net_holds) rfl
  have F_Net_holds : Fun K "holds" "Net.holds" s_Net_holds (He.ma K (He.ga K "Net") "holds") fd_Net_holds := fun_of F0_Net_holds
  have k_Net_holds := F_Net_holds.kp
  have m0_Net_holds : Meth K CN "holds" (He.ma K (He.ga K "Net") "holds") := by
    rw [← e_CN]
    exact He.meth_ok (c.t.d.fact 85 (f := .meth "Net" "holds") rfl)
  have a_Net_holds := m0_Net_holds.1
  have i_Net_holds := m0_Net_holds.2
  have b_Net_holds := F_Net_holds.binds (ps := ["self"]) fun _ _ _ _ _ _ us hl => match us, hl with | [_], _ => rfl
  obtain ⟨fd_Net_points, F0_Net_points⟩ := c.t.d.def_ 70 (d := dd_Net_points) rfl
  have F_Net_points : Fun K "points" "Net.points" s_Net_points (He.ma K (He.ga K "Net") "points") fd_Net_points := fun_of F0_Net_points
  have k_Net_points := F_Net_points.kp
  have m0_Net_points : Meth K CN "points" (He.ma K (He.ga K "Net") "points") := by
    rw [← e_CN]
    exact He.meth_ok (c.t.d.fact 86 (f := .meth "Net" "points") rfl)
  have a_Net_points := m0_Net_points.1
  have i_Net_points := m0_Net_points.2
  have b_Net_points := F_Net_points.binds (ps := ["self"]) fun _ _ _ _ _ _ us hl => match us, hl with | [_], _ => rfl
  obtain ⟨fd_Net_enters, F0_Net_enters⟩ := c.t.d.def_ 71 (d := dd_Net_enters) rfl
  have F_Net_enters : Fun K "enters" "Net.enters" s_Net_enters (He.ma K (He.ga K "Net") "enters") fd_Net_enters := fun_of F0_Net_enters
  have k_Net_enters := F_Net_enters.kp
  have m0_Net_enters : Meth K CN "enters" (He.ma K (He.ga K "Net") "enters") := by
    rw [← e_CN]
    exact He.meth_ok (c.t.d.fact 87 (f := .meth "Net" "enters") rfl)
  have a_Net_enters := m0_Net_enters.1
  have i_Net_enters := m0_Net_enters.2
  have b_Net_enters := F_Net_enters.binds (ps := ["self"]) fun _ _ _ _ _ _ us hl => match us, hl with | [_], _ => rfl
  obtain ⟨fd_Net_keeps, F0_Net_keeps⟩ := c.t.d.def_ 72 (d := dd_Net_keeps) rfl
  have F_Net_keeps : Fun K "keeps" "Net.keeps" s_Net_keeps (He.ma K (He.ga K "Net") "keeps") fd_Net_keeps := fun_of F0_Net_keeps
  have k_Net_keeps := F_Net_keeps.kp
  have m0_Net_keeps : Meth K CN "keeps" (He.ma K (He.ga K "Net") "keeps") := by
    rw [← e_CN]
    exact He.meth_ok (c.t.d.fact 88 (f := .meth "Net" "keeps") rfl)
  have a_Net_keeps := m0_Net_keeps.1
  have i_Net_keeps := m0_Net_keeps.2
  have b_Net_keeps := F_Net_keeps.binds (ps := ["self"]) fun _ _ _ _ _ _ us hl => match us, hl with | [_], _ => rfl
  obtain ⟨fd_Net_start, F0_Net_start⟩ := c.t.d.def_ 73 (d := dd_Net_start) rfl
  have F_Net_start : Fun K "start" "Net.start" s_Net_start (He.ma K (He.ga K "Net") "start") fd_Net_start := fun_of F0_Net_start
  have k_Net_start := F_Net_start.kp
  have m0_Net_start : Meth K CN "start" (He.ma K (He.ga K "Net") "start") := by
    rw [← e_CN]
    exact He.meth_ok (c.t.d.fact 89 (f := .meth "Net" "start") rfl)
  have a_Net_start := m0_Net_start.1
  have i_Net_start := m0_Net_start.2
  have b_Net_start := F_Net_start.binds (ps := ["self"]) fun _ _ _ _ _ _ us hl => match us, hl with | [_], _ => rfl
  obtain ⟨fd_Net_out, F0_Net_out⟩ := c.t.d.def_ 74 (d := dd_Net_out) rfl
  have F_Net_out : Fun K "out" "Net.out" s_Net_out (He.ma K (He.ga K "Net") "out") fd_Net_out := fun_of F0_Net_out
  have k_Net_out := F_Net_out.kp
  have m0_Net_out : Meth K CN "out" (He.ma K (He.ga K "Net") "out") := by
    rw [← e_CN]
    exact He.meth_ok (c.t.d.fact 90 (f := .meth "Net" "out") rfl)
  have a_Net_out := m0_Net_out.1
  have i_Net_out := m0_Net_out.2
  have b_Net_out := F_Net_out.binds (ps := ["self"]) fun _ _ _ _ _ _ us hl => match us, hl with | [_], _ => rfl
  obtain ⟨fd_Net___eq__, F0_Net___eq__⟩ := c.t.d.def_ 75 (d := dd_Net___eq__) rfl
  have F_Net___eq__ : Fun K "__eq__" "Net.__eq__" s_Net___eq__ (He.ma K (He.ga K "Net") "__eq__") fd_Net___eq__ := fun_of F0_Net___eq__
  have k_Net___eq__ := F_Net___eq__.kp
  have m0_Net___eq__ : Meth K CN "__eq__" (He.ma K (He.ga K "Net") "__eq__") := by
    rw [← e_CN]
    exact He.meth_ok (c.t.d.fact 91 (f := .meth "Net" "__eq__") rfl)
  have a_Net___eq__ := m0_Net___eq__.1
  have i_Net___eq__ := m0_Net___eq__.2
  have b_Net___eq__ := F_Net___eq__.binds (ps := ["self", "other"]) fun _ _ _ _ _ _ us hl => match us, hl with | [_, _], _ => rfl
  obtain ⟨fd_Net___init__, F0_Net___init__⟩ := c.t.d.def_ 76 (d := dd_Net___init__) rfl
  have F_Net___init__ : Fun K "__init__" "Net.__init__" s_Net___init__ (He.ma K (He.ga K "Net") "__init__") fd_Net___init__ := fun_of F0_Net___init__
  have k_Net___init__ := F_Net___init__.kp
  have m0_Net___init__ : Meth K CN "__init__" (He.ma K (He.ga K "Net") "__init__") := by
    rw [← e_CN]
    exact He.meth_ok (c.t.d.fact 92 (f := .meth "Net" "__init__") rfl)
  have a_Net___init__ := m0_Net___init__.1
  have i_Net___init__ := m0_Net___init__.2
  have b_Net___init__ := F_Net___init__.binds (ps := ["self", "forms", "enters", "rows", "holds", "out"]) fun _ _ _ _ _ _ us hl => match us, hl with | [_, _, _, _, _, _], _ => rfl
  have aC_CM : PySem.W.nsIn K mainGlobals "Machine" = some (some (.ref CM)) := by
    rw [← e_CM]
    exact He.eqO_ok (c.t.d.fact 93 (f := .glo "Machine") rfl)
  have cl_CM : Cls K CM := by
    rw [← e_CM]
    exact He.cls_ok (c.t.d.fact 94 (f := .cls "Machine") rfl)
  have pg_CM := cl_CM.1
  have hd_CM := cl_CM.2
  have po_CM := cl_CM.3
  have sa_CM := cl_CM.4
  have mk0_CM : Mk K CM (He.ma K (He.ga K "Machine") "__init__") := by
    rw [← e_CM]
    exact He.mkr_ok (c.t.d.fact 95 (f := .mkr "Machine") rfl)
  have mk_CM := mk0_CM.1
  have kc_CM := mk0_CM.4
  have n_CM_first : NoAttr K CM "first" := by
    rw [← e_CM]
    exact He.noat_ok (c.t.d.fact 96 (f := .noat "Machine" "first") rfl)
  have n_CM_net : NoAttr K CM "net" := by
    rw [← e_CM]
    exact He.noat_ok (c.t.d.fact 97 (f := .noat "Machine" "net") rfl)
  have n_CM_past : NoAttr K CM "past" := by
    rw [← e_CM]
    exact He.noat_ok (c.t.d.fact 98 (f := .noat "Machine" "past") rfl)
  obtain ⟨fd_Machine_turn, F0_Machine_turn⟩ := c.t.d.def_ 77 (d := dd_Machine_turn) rfl
  have F_Machine_turn : Fun K "turn" "Machine.turn" s_Machine_turn (He.ma K (He.ga K "Machine") "turn") fd_Machine_turn := fun_of F0_Machine_turn
  have k_Machine_turn := F_Machine_turn.kp
  have m0_Machine_turn : Meth K CM "turn" (He.ma K (He.ga K "Machine") "turn") := by
    rw [← e_CM]
    exact He.meth_ok (c.t.d.fact 99 (f := .meth "Machine" "turn") rfl)
  have a_Machine_turn := m0_Machine_turn.1
  have i_Machine_turn := m0_Machine_turn.2
  have b_Machine_turn := F_Machine_turn.binds (ps := ["self", "word"]) fun _ _ _ _ _ _ us hl => match us, hl with | [_, _], _ => rfl
  obtain ⟨fd_Machine_turns, F0_Machine_turns⟩ := c.t.d.def_ 78 (d := dd_Machine_turns) rfl
  have F_Machine_turns : Fun K "turns" "Machine.turns" s_Machine_turns (He.ma K (He.ga K "Machine") "turns") fd_Machine_turns := fun_of F0_Machine_turns
  have k_Machine_turns := F_Machine_turns.kp
  have m0_Machine_turns : Meth K CM "turns" (He.ma K (He.ga K "Machine") "turns") := by
    rw [← e_CM]
    exact He.meth_ok (c.t.d.fact 100 (f := .meth "Machine" "turns") rfl)
  have a_Machine_turns := m0_Machine_turns.1
  have i_Machine_turns := m0_Machine_turns.2
  have b_Machine_turns := F_Machine_turns.binds (ps := ["self"]) fun _ _ _ _ _ _ us hl => match us, hl with | [_], _ => rfl
  obtain ⟨fd_Machine_state, F0_Machine_state⟩ := c.t.d.def_ 79 (d := dd_Machine_state) rfl
  have F_Machine_state : Fun K "state" "Machine.state" s_Machine_state (He.ma K (He.ga K "Machine") "state") fd_Machine_state := fun_of F0_Machine_state
  have k_Machine_state := F_Machine_state.kp
  have m0_Machine_state : Meth K CM "state" (He.ma K (He.ga K "Machine") "state") := by
    rw [← e_CM]
    exact He.meth_ok (c.t.d.fact 101 (f := .meth "Machine" "state") rfl)
  have a_Machine_state := m0_Machine_state.1
  have i_Machine_state := m0_Machine_state.2
  have b_Machine_state := F_Machine_state.binds (ps := ["self"]) fun _ _ _ _ _ _ us hl => match us, hl with | [_], _ => rfl
  obtain ⟨fd_Machine_numbers, F0_Machine_numbers⟩ := c.t.d.def_ 80 (d := dd_Machine_numbers) rfl
  have F_Machine_numbers : Fun K "numbers" "Machine.numbers" s_Machine_numbers (He.ma K (He.ga K "Machine") "numbers") fd_Machine_numbers := fun_of F0_Machine_numbers
  have k_Machine_numbers := F_Machine_numbers.kp
  have m0_Machine_numbers : Meth K CM "numbers" (He.ma K (He.ga K "Machine") "numbers") := by
    rw [← e_CM]
    exact He.meth_ok (c.t.d.fact 102 (f := .meth "Machine" "numbers") rfl)
  have a_Machine_numbers := m0_Machine_numbers.1
  have i_Machine_numbers := m0_Machine_numbers.2
  have b_Machine_numbers := F_Machine_numbers.binds (ps := ["self"]) fun _ _ _ _ _ _ us hl => match us, hl with | [_], _ => rfl
  obtain ⟨fd_Machine_overs, F0_Machine_overs⟩ := c.t.d.def_ 81 (d := dd_Machine_overs) rfl
  have F_Machine_overs : Fun K "overs" "Machine.overs" s_Machine_overs (He.ma K (He.ga K "Machine") "overs") fd_Machine_overs := fun_of F0_Machine_overs
  have k_Machine_overs := F_Machine_overs.kp
  have m0_Machine_overs : Meth K CM "overs" (He.ma K (He.ga K "Machine") "overs") := by
    rw [← e_CM]
    exact He.meth_ok (c.t.d.fact 103 (f := .meth "Machine" "overs") rfl)
  have a_Machine_overs := m0_Machine_overs.1
  have i_Machine_overs := m0_Machine_overs.2
  have b_Machine_overs := F_Machine_overs.binds (ps := ["self"]) fun _ _ _ _ _ _ us hl => match us, hl with | [_], _ => rfl
  obtain ⟨fd_Machine_went, F0_Machine_went⟩ := c.t.d.def_ 82 (d := dd_Machine_went) rfl
  have F_Machine_went : Fun K "went" "Machine.went" s_Machine_went (He.ma K (He.ga K "Machine") "went") fd_Machine_went := fun_of F0_Machine_went
  have k_Machine_went := F_Machine_went.kp
  have m0_Machine_went : Meth K CM "went" (He.ma K (He.ga K "Machine") "went") := by
    rw [← e_CM]
    exact He.meth_ok (c.t.d.fact 104 (f := .meth "Machine" "went") rfl)
  have a_Machine_went := m0_Machine_went.1
  have i_Machine_went := m0_Machine_went.2
  have b_Machine_went := F_Machine_went.binds (ps := ["self"]) fun _ _ _ _ _ _ us hl => match us, hl with | [_], _ => rfl
  obtain ⟨fd_Machine___init__, F0_Machine___init__⟩ := c.t.d.def_ 83 (d := dd_Machine___init__) rfl
  have F_Machine___init__ : FunD K "__init__" "Machine.__init__" (defArgs s_Machine___init__) (defBody s_Machine___init__) (defScope s_Machine___init__) [V.non] [] (He.ma K (He.ga K "Machine") "__init__") fd_Machine___init__ := F0_Machine___init__
  have k_Machine___init__ := F_Machine___init__.kp
  have m0_Machine___init__ : Meth K CM "__init__" (He.ma K (He.ga K "Machine") "__init__") := by
    rw [← e_CM]
    exact He.meth_ok (c.t.d.fact 105 (f := .meth "Machine" "__init__") rfl)
  have a_Machine___init__ := m0_Machine___init__.1
  have i_Machine___init__ := m0_Machine___init__.2
  obtain ⟨ds_Mach3, dv_Mach3, b_Mach3⟩ := F_Machine___init__.binds1 (ps := ["self", "net", "state"]) 3 1 (by simp) rfl fun _ _ _ _ _ _ _ us its h1 h2 => match us, its, h1, h2 with | [_, _, _], [_], _, _ => ⟨_, rfl, rfl⟩
  cases dv_Mach3
  have aC_CE : PySem.W.nsIn K mainGlobals "EchoError" = some (some (.ref CE)) := by
    rw [← e_CE]
    exact He.eqO_ok (c.t.d.fact 106 (f := .glo "EchoError") rfl)
  have aC_CB : PySem.W.nsIn K mainGlobals "BadState" = some (some (.ref CB)) := by
    rw [← e_CB]
    exact He.eqO_ok (c.t.d.fact 107 (f := .glo "BadState") rfl)
  have aC_CN9 : PySem.W.nsIn K mainGlobals "BadNet" = some (some (.ref CN9)) := by
    rw [← e_CN9]
    exact He.eqO_ok (c.t.d.fact 108 (f := .glo "BadNet") rfl)
  have aC_CT : PySem.W.nsIn K mainGlobals "NoTurn" = some (some (.ref CT)) := by
    rw [← e_CT]
    exact He.eqO_ok (c.t.d.fact 109 (f := .glo "NoTurn") rfl)
  have aC_CU : PySem.W.nsIn K mainGlobals "Unfit" = some (some (.ref CU)) := by
    rw [← e_CU]
    exact He.eqO_ok (c.t.d.fact 110 (f := .glo "Unfit") rfl)
  have ei_CU : PySem.W.excInitIn K (He.ga K "Unfit") PySem.ErrX.bmA "ArithmeticError.__new__" = true := of_decide_eq_true (ex_at c.more (i := 1) (b := decide (PySem.W.excInitIn K (He.ga K "Unfit") PySem.ErrX.bmA "ArithmeticError.__new__" = true)) rfl)
  rw [e_CU] at ei_CU
  have eo_CU : PySem.W.excOver K (He.ga K "Unfit") PySem.ErrX.bmA = true := of_decide_eq_true (ex_at c.more (i := 2) (b := decide (PySem.W.excOver K (He.ga K "Unfit") PySem.ErrX.bmA = true)) rfl)
  rw [e_CU] at eo_CU
  have sa_CU : PySem.W.findIn K (.ref (He.ga K "Unfit")) "__setattr__" = some (some (.builtin "object.__setattr__")) := of_decide_eq_true (ex_at c.more (i := 3) (b := decide (PySem.W.findIn K (.ref (He.ga K "Unfit")) "__setattr__" = some (some (.builtin "object.__setattr__")))) rfl)
  rw [e_CU] at sa_CU
  have ga_CU : PySem.W.findIn K (.ref (He.ga K "Unfit")) "__getattribute__" = some (some (.builtin "BaseException.__getattribute__")) := of_decide_eq_true (ex_at c.more (i := 4) (b := decide (PySem.W.findIn K (.ref (He.ga K "Unfit")) "__getattribute__" = some (some (.builtin "BaseException.__getattribute__")))) rfl)
  rw [e_CU] at ga_CU
  have gg_CU : PySem.W.findIn K (.ref (He.ga K "Unfit")) "__getattr__" = some none := of_decide_eq_true (ex_at c.more (i := 5) (b := decide (PySem.W.findIn K (.ref (He.ga K "Unfit")) "__getattr__" = some none)) rfl)
  rw [e_CU] at gg_CU
  have kC_CU : PySem.W.keepIn K (.ref (He.ga K "Unfit")) = true := of_decide_eq_true (ex_at c.more (i := 6) (b := decide (PySem.W.keepIn K (.ref (He.ga K "Unfit")) = true)) rfl)
  rw [e_CU] at kC_CU
  have ex_CU : PySem.W.subIn K (.ref (He.ga K "Unfit")) (.type "BaseException") = some true := of_decide_eq_true (ex_at c.more (i := 7) (b := decide (PySem.W.subIn K (.ref (He.ga K "Unfit")) (.type "BaseException") = some true)) rfl)
  rw [e_CU] at ex_CU
  have ty_CU : PySem.W.typeIn K (.ref (He.ga K "Unfit")) = some (.type "type") := of_decide_eq_true (ex_at c.more (i := 8) (b := decide (PySem.W.typeIn K (.ref (He.ga K "Unfit")) = some (.type "type"))) rfl)
  rw [e_CU] at ty_CU
  have hd_CU : PySem.W.hasDictIn K (He.ga K "Unfit") = true := of_decide_eq_true (ex_at c.more (i := 9) (b := decide (PySem.W.hasDictIn K (He.ga K "Unfit") = true)) rfl)
  rw [e_CU] at hd_CU
  have ha_CU : PySem.W.findIn K (.ref (He.ga K "Unfit")) "__class__" = some (some (.builtin "object.__class__")) := of_decide_eq_true (ex_at c.more (i := 10) (b := decide (PySem.W.findIn K (.ref (He.ga K "Unfit")) "__class__" = some (some (.builtin "object.__class__")))) rfl)
  rw [e_CU] at ha_CU
  have hn_CU : PySem.W.specialIn K (.builtin "object.__class__") "__get__" = some (some (.builtin "getset_descriptor.__get__")) := of_decide_eq_true (ex_at c.more (i := 11) (b := decide (PySem.W.specialIn K (.builtin "object.__class__") "__get__" = some (some (.builtin "getset_descriptor.__get__")))) rfl)
  have ht_CU : PySem.W.takesIn K (.builtin "object.__class__") = some true := of_decide_eq_true (ex_at c.more (i := 12) (b := decide (PySem.W.takesIn K (.builtin "object.__class__") = some true)) rfl)
  have hm_CU : PySem.W.mroIn K (He.ga K "Unfit") (.type "object") = some true := of_decide_eq_true (ex_at c.more (i := 13) (b := decide (PySem.W.mroIn K (He.ga K "Unfit") (.type "object") = some true)) rfl)
  rw [e_CU] at hm_CU
  have iC_CU : PySem.W.findIn K (.ref (He.ga K "Unfit")) "__init__" = some (some (.ref (iniA K "Unfit"))) := of_decide_eq_true (ex_at c.more (i := 14) (b := decide (PySem.W.findIn K (.ref (He.ga K "Unfit")) "__init__" = some (some (.ref (iniA K "Unfit"))))) rfl)
  rw [e_CU] at iC_CU
  have tC_CU : PySem.W.typeIn K (.ref (iniA K "Unfit")) = some (.type "function") := of_decide_eq_true (ex_at c.more (i := 15) (b := decide (PySem.W.typeIn K (.ref (iniA K "Unfit")) = some (.type "function"))) rfl)
  have nf_CU : PySem.W.findIn K (.ref (He.ga K "Unfit")) "at" = some none := of_decide_eq_true (ex_at c.more (i := 16) (b := decide (PySem.W.findIn K (.ref (He.ga K "Unfit")) "at" = some none)) rfl)
  rw [e_CU] at nf_CU
  have su_CU : PySem.W.ks_superIn K (He.ga K "Unfit") (He.ga K "Unfit") "__init__" = some (some (.builtin "ArithmeticError.__init__")) := of_decide_eq_true (ex_at c.more (i := 17) (b := decide (PySem.W.ks_superIn K (He.ga K "Unfit") (He.ga K "Unfit") "__init__" = some (some (.builtin "ArithmeticError.__init__")))) rfl)
  rw [e_CU] at su_CU
  have sA_CU : PySem.W.subIn K (.ref (He.ga K "Unfit")) (.type "ArithmeticError") = some true := of_decide_eq_true (ex_at c.more (i := 18) (b := decide (PySem.W.subIn K (.ref (He.ga K "Unfit")) (.type "ArithmeticError") = some true)) rfl)
  rw [e_CU] at sA_CU
  have sf_CU : PySem.W.mroIn K (He.ga K "Unfit") (.ref (He.ga K "Unfit")) = some true := of_decide_eq_true (ex_at c.more (i := 19) (b := decide (PySem.W.mroIn K (He.ga K "Unfit") (.ref (He.ga K "Unfit")) = some true)) rfl)
  rw [e_CU] at sf_CU
  have th_CU : PySem.W.nsIn K cStatics "thirdparty.any" = some none := of_decide_eq_true (ex_at c.more (i := 20) (b := decide (PySem.W.nsIn K cStatics "thirdparty.any" = some none)) rfl)
  have ms_CU : PySem.W.nsIn K mainGlobals "super" = some none := of_decide_eq_true (ex_at c.more (i := 21) (b := decide (PySem.W.nsIn K mainGlobals "super" = some none)) rfl)
  obtain ⟨cc_CU, dV_CU, ih_CU⟩ := errD_ok (d := ed_CU) hfile (ini_at c.ini (i := 0) rfl) (ex_at c.more (i := 22) (b := ed_CU.ok K) rfl)
  have EC_CU : PySem.ErrX.ErrC K mg "Unfit" CU := ⟨PySem.W.mg_of X G aC_CU, ei_CU, eo_CU, sa_CU, ga_CU, gg_CU, kC_CU, ex_CU, ty_CU, hd_CU⟩
  have cl_CU := ih_CU.cell
  rw [show He.ga K ed_CU.x = CU from e_CU] at cl_CU
  have IC_CU : PySem.ErrX.IniC l.prog K mg CU (iniA K "Unfit") cc_CU "Unfit.__init__" "at" s_Unfit___init__ dV_CU := ⟨iC_CU, tC_CU, ih_CU.fn, cl_CU, nf_CU, su_CU, sA_CU, sf_CU, th_CU, PySem.W.mg_none_of X G ms_CU, htop⟩
  have XC_CU : ExcC K CU := ⟨ga_CU, gg_CU, ex_CU, hd_CU, ha_CU, hn_CU, ht_CU, hm_CU⟩
  have nb_x : PySem.W.excIn K (He.ga K "BadState") PySem.ErrX.bmA "ArithmeticError.__new__" = true := of_decide_eq_true (ex_at c.more (i := 23) (b := decide (PySem.W.excIn K (He.ga K "BadState") PySem.ErrX.bmA "ArithmeticError.__new__" = true)) rfl)
  rw [e_CB] at nb_x
  have nb_k : PySem.W.keepIn K (.ref (He.ga K "BadState")) = true := of_decide_eq_true (ex_at c.more (i := 24) (b := decide (PySem.W.keepIn K (.ref (He.ga K "BadState")) = true)) rfl)
  rw [e_CB] at nb_k
  have nb_b : PySem.W.subIn K (.ref (He.ga K "BadState")) (.type "BaseException") = some true := of_decide_eq_true (ex_at c.more (i := 25) (b := decide (PySem.W.subIn K (.ref (He.ga K "BadState")) (.type "BaseException") = some true)) rfl)
  rw [e_CB] at nb_b
  have nb_t : PySem.W.typeIn K (.ref (He.ga K "BadState")) = some (.type "type") := of_decide_eq_true (ex_at c.more (i := 26) (b := decide (PySem.W.typeIn K (.ref (He.ga K "BadState")) = some (.type "type"))) rfl)
  rw [e_CB] at nb_t
  have nb_ga : PySem.W.findIn K (.ref (He.ga K "BadState")) "__getattribute__" = some (some (.builtin "BaseException.__getattribute__")) := of_decide_eq_true (ex_at c.more (i := 27) (b := decide (PySem.W.findIn K (.ref (He.ga K "BadState")) "__getattribute__" = some (some (.builtin "BaseException.__getattribute__")))) rfl)
  rw [e_CB] at nb_ga
  have nb_gg : PySem.W.findIn K (.ref (He.ga K "BadState")) "__getattr__" = some none := of_decide_eq_true (ex_at c.more (i := 28) (b := decide (PySem.W.findIn K (.ref (He.ga K "BadState")) "__getattr__" = some none)) rfl)
  rw [e_CB] at nb_gg
  have nb_hd : PySem.W.hasDictIn K (He.ga K "BadState") = true := of_decide_eq_true (ex_at c.more (i := 29) (b := decide (PySem.W.hasDictIn K (He.ga K "BadState") = true)) rfl)
  rw [e_CB] at nb_hd
  have nb_ha : PySem.W.findIn K (.ref (He.ga K "BadState")) "__class__" = some (some (.builtin "object.__class__")) := of_decide_eq_true (ex_at c.more (i := 30) (b := decide (PySem.W.findIn K (.ref (He.ga K "BadState")) "__class__" = some (some (.builtin "object.__class__")))) rfl)
  rw [e_CB] at nb_ha
  have nb_hn : PySem.W.specialIn K (.builtin "object.__class__") "__get__" = some (some (.builtin "getset_descriptor.__get__")) := of_decide_eq_true (ex_at c.more (i := 31) (b := decide (PySem.W.specialIn K (.builtin "object.__class__") "__get__" = some (some (.builtin "getset_descriptor.__get__")))) rfl)
  have nb_ht : PySem.W.takesIn K (.builtin "object.__class__") = some true := of_decide_eq_true (ex_at c.more (i := 32) (b := decide (PySem.W.takesIn K (.builtin "object.__class__") = some true)) rfl)
  have nb_hm : PySem.W.mroIn K (He.ga K "BadState") (.type "object") = some true := of_decide_eq_true (ex_at c.more (i := 33) (b := decide (PySem.W.mroIn K (He.ga K "BadState") (.type "object") = some true)) rfl)
  rw [e_CB] at nb_hm
  have xm_CB : PySem.W.exmOne K (.ref (He.ga K "BadState")) (.ref (He.ga K "EchoError")) = some true := of_decide_eq_true (ex_at c.more (i := 34) (b := decide (PySem.W.exmOne K (.ref (He.ga K "BadState")) (.ref (He.ga K "EchoError")) = some true)) rfl)
  rw [e_CE] at xm_CB
  rw [e_CB] at xm_CB
  have xm_CU : PySem.W.exmOne K (.ref (He.ga K "Unfit")) (.ref (He.ga K "EchoError")) = some true := of_decide_eq_true (ex_at c.more (i := 35) (b := decide (PySem.W.exmOne K (.ref (He.ga K "Unfit")) (.ref (He.ga K "EchoError")) = some true)) rfl)
  rw [e_CE] at xm_CU
  rw [e_CU] at xm_CU
  have ki_CB_CB : PySem.W.kitOne K (.ref (He.ga K "BadState")) (.ref (He.ga K "BadState")) = some true := of_decide_eq_true (ex_at c.more (i := 36) (b := decide (PySem.W.kitOne K (.ref (He.ga K "BadState")) (.ref (He.ga K "BadState")) = some true)) rfl)
  rw [e_CB] at ki_CB_CB
  have ki_CB_CU : PySem.W.kitOne K (.ref (He.ga K "BadState")) (.ref (He.ga K "Unfit")) = some false := of_decide_eq_true (ex_at c.more (i := 37) (b := decide (PySem.W.kitOne K (.ref (He.ga K "BadState")) (.ref (He.ga K "Unfit")) = some false)) rfl)
  rw [e_CB] at ki_CB_CU
  rw [e_CU] at ki_CB_CU
  have ki_CB_CN9 : PySem.W.kitOne K (.ref (He.ga K "BadState")) (.ref (He.ga K "BadNet")) = some false := of_decide_eq_true (ex_at c.more (i := 38) (b := decide (PySem.W.kitOne K (.ref (He.ga K "BadState")) (.ref (He.ga K "BadNet")) = some false)) rfl)
  rw [e_CB] at ki_CB_CN9
  rw [e_CN9] at ki_CB_CN9
  have ki_CB_CT : PySem.W.kitOne K (.ref (He.ga K "BadState")) (.ref (He.ga K "NoTurn")) = some false := of_decide_eq_true (ex_at c.more (i := 39) (b := decide (PySem.W.kitOne K (.ref (He.ga K "BadState")) (.ref (He.ga K "NoTurn")) = some false)) rfl)
  rw [e_CB] at ki_CB_CT
  rw [e_CT] at ki_CB_CT
  have ki_CU_CB : PySem.W.kitOne K (.ref (He.ga K "Unfit")) (.ref (He.ga K "BadState")) = some false := of_decide_eq_true (ex_at c.more (i := 40) (b := decide (PySem.W.kitOne K (.ref (He.ga K "Unfit")) (.ref (He.ga K "BadState")) = some false)) rfl)
  rw [e_CB] at ki_CU_CB
  rw [e_CU] at ki_CU_CB
  have ki_CU_CU : PySem.W.kitOne K (.ref (He.ga K "Unfit")) (.ref (He.ga K "Unfit")) = some true := of_decide_eq_true (ex_at c.more (i := 41) (b := decide (PySem.W.kitOne K (.ref (He.ga K "Unfit")) (.ref (He.ga K "Unfit")) = some true)) rfl)
  rw [e_CU] at ki_CU_CU
  have ki_CU_CN9 : PySem.W.kitOne K (.ref (He.ga K "Unfit")) (.ref (He.ga K "BadNet")) = some false := of_decide_eq_true (ex_at c.more (i := 42) (b := decide (PySem.W.kitOne K (.ref (He.ga K "Unfit")) (.ref (He.ga K "BadNet")) = some false)) rfl)
  rw [e_CN9] at ki_CU_CN9
  rw [e_CU] at ki_CU_CN9
  have ki_CU_CT : PySem.W.kitOne K (.ref (He.ga K "Unfit")) (.ref (He.ga K "NoTurn")) = some false := of_decide_eq_true (ex_at c.more (i := 43) (b := decide (PySem.W.kitOne K (.ref (He.ga K "Unfit")) (.ref (He.ga K "NoTurn")) = some false)) rfl)
  rw [e_CT] at ki_CU_CT
  rw [e_CU] at ki_CU_CT
  have a_overs_machines : PySem.W.nsIn K mainGlobals "overs_machines" = some (some (.ref (He.ga K "overs"))) := of_decide_eq_true (ex_at c.more (i := 44) (b := decide (PySem.W.nsIn K mainGlobals "overs_machines" = some (some (.ref (He.ga K "overs"))))) rfl)
  obtain ⟨fd_Form___init__, F0_Form___init__⟩ := c.t.d.def_ 84 (d := dd_Form___init__) rfl
  have F_Form___init__ : FunD K "__init__" "Form.__init__" (defArgs s_Form___init__) (defBody s_Form___init__) (defScope s_Form___init__) [V.non, V.int 0, V.str "half", V.str "wrap"] [] (He.ma K (He.ga K "Form") "__init__") fd_Form___init__ := F0_Form___init__
  have k_Form___init__ := F_Form___init__.kp
  have m0_Form___init__ : Meth K C "__init__" (He.ma K (He.ga K "Form") "__init__") := by
    rw [← e_C]
    exact He.meth_ok (c.t.d.fact 111 (f := .meth "Form" "__init__") rfl)
  have a_Form___init__ := m0_Form___init__.1
  have i_Form___init__ := m0_Form___init__.2
  obtain ⟨ds_Form4, dv_Form4, b_Form4⟩ := F_Form___init__.binds1 (ps := ["self", "width", "point", "manner", "ends"]) 5 4 (by simp) rfl fun _ _ _ _ _ _ _ us its h1 h2 => match us, its, h1, h2 with | [_, _, _, _, _], [_, _, _, _], _, _ => ⟨_, rfl, rfl⟩
  cases dv_Form4
  obtain ⟨tk_LEAST_WIDTH, gm_LEAST_WIDTH⟩ := He.int_ok X G (c.t.d.fact 112 (f := .int "LEAST_WIDTH" 2) rfl)
  obtain ⟨tk_GREATEST_WIDTH, gm_GREATEST_WIDTH⟩ := He.int_ok X G (c.t.d.fact 113 (f := .int "GREATEST_WIDTH" 64) rfl)
  obtain ⟨tk_GREATEST_POINT, gm_GREATEST_POINT⟩ := He.int_ok X G (c.t.d.fact 114 (f := .int "GREATEST_POINT" 64) rfl)
  obtain ⟨tk_MOST_FORMS, gm_MOST_FORMS⟩ := He.int_ok X G (c.t.d.fact 115 (f := .int "MOST_FORMS" 12) rfl)
  obtain ⟨tk_MOST_ROWS, gm_MOST_ROWS⟩ := He.int_ok X G (c.t.d.fact 116 (f := .int "MOST_ROWS" 60) rfl)
  obtain ⟨tk_MOST_HOLDS, gm_MOST_HOLDS⟩ := He.int_ok X G (c.t.d.fact 117 (f := .int "MOST_HOLDS" 6) rfl)
  obtain ⟨tk_FACTOR_END, gm_FACTOR_END⟩ := He.int_ok X G (c.t.d.fact 118 (f := .int "FACTOR_END" 9223372036854775808) rfl)
  obtain ⟨tk_GREATEST_SHIFT, gm_GREATEST_SHIFT⟩ := He.int_ok X G (c.t.d.fact 119 (f := .int "GREATEST_SHIFT" 64) rfl)
  obtain ⟨tk_GREATEST_ROW_POINT, gm_GREATEST_ROW_POINT⟩ := He.int_ok X G (c.t.d.fact 120 (f := .int "GREATEST_ROW_POINT" 200) rfl)
  have gm_ENDS : mg "ENDS" = some (.ref A_ENDS) := by
    rw [← e_A_ENDS]
    exact He.glo_ok X G (c.t.d.fact 121 (f := .glo "ENDS") rfl)
  have T_ENDS : ∀ H, SqT K H A_ENDS [V.str "wrap", V.str "stop"] := by
    rw [← e_A_ENDS]
    exact fun H => He.tupB_ok (ex_at c.more (i := 45) (b := He.tupB K "ENDS" [.str "wrap", .str "stop"]) rfl) H
  have gm_MANNERS : mg "MANNERS" = some (.ref A_MANNERS) := by
    rw [← e_A_MANNERS]
    exact He.glo_ok X G (c.t.d.fact 122 (f := .glo "MANNERS") rfl)
  obtain ⟨es_MANNERS, dn_MANNERS, KD_MANNERS⟩ := c.t.tab 0 (t := (fun K => He.ga K "MANNERS", ["down", "up", "in", "out", "half", "even", "far"])) rfl
  replace KD_MANNERS : KDict K w A_MANNERS es_MANNERS dn_MANNERS := by
    rw [← e_A_MANNERS]
    exact KD_MANNERS
  have d_MANNERS_down : PySem.W.nsIn K (He.ga K "MANNERS") "down" = some (some (.ref (He.ga K "downward"))) := of_decide_eq_true (ex_at c.more (i := 46) (b := decide (PySem.W.nsIn K (He.ga K "MANNERS") "down" = some (some (.ref (He.ga K "downward"))))) rfl)
  rw [e_A_MANNERS] at d_MANNERS_down
  have d_MANNERS_up : PySem.W.nsIn K (He.ga K "MANNERS") "up" = some (some (.ref (He.ga K "upward"))) := of_decide_eq_true (ex_at c.more (i := 47) (b := decide (PySem.W.nsIn K (He.ga K "MANNERS") "up" = some (some (.ref (He.ga K "upward"))))) rfl)
  rw [e_A_MANNERS] at d_MANNERS_up
  have d_MANNERS_in : PySem.W.nsIn K (He.ga K "MANNERS") "in" = some (some (.ref (He.ga K "inward"))) := of_decide_eq_true (ex_at c.more (i := 48) (b := decide (PySem.W.nsIn K (He.ga K "MANNERS") "in" = some (some (.ref (He.ga K "inward"))))) rfl)
  rw [e_A_MANNERS] at d_MANNERS_in
  have d_MANNERS_out : PySem.W.nsIn K (He.ga K "MANNERS") "out" = some (some (.ref (He.ga K "outward"))) := of_decide_eq_true (ex_at c.more (i := 49) (b := decide (PySem.W.nsIn K (He.ga K "MANNERS") "out" = some (some (.ref (He.ga K "outward"))))) rfl)
  rw [e_A_MANNERS] at d_MANNERS_out
  have d_MANNERS_half : PySem.W.nsIn K (He.ga K "MANNERS") "half" = some (some (.ref (He.ga K "nearest_greater"))) := of_decide_eq_true (ex_at c.more (i := 50) (b := decide (PySem.W.nsIn K (He.ga K "MANNERS") "half" = some (some (.ref (He.ga K "nearest_greater"))))) rfl)
  rw [e_A_MANNERS] at d_MANNERS_half
  have d_MANNERS_even : PySem.W.nsIn K (He.ga K "MANNERS") "even" = some (some (.ref (He.ga K "nearest_even"))) := of_decide_eq_true (ex_at c.more (i := 51) (b := decide (PySem.W.nsIn K (He.ga K "MANNERS") "even" = some (some (.ref (He.ga K "nearest_even"))))) rfl)
  rw [e_A_MANNERS] at d_MANNERS_even
  have d_MANNERS_far : PySem.W.nsIn K (He.ga K "MANNERS") "far" = some (some (.ref (He.ga K "nearest_far"))) := of_decide_eq_true (ex_at c.more (i := 52) (b := decide (PySem.W.nsIn K (He.ga K "MANNERS") "far" = some (some (.ref (He.ga K "nearest_far"))))) rfl)
  rw [e_A_MANNERS] at d_MANNERS_far
  have gm_POINT_RULES : mg "POINT_RULES" = some (.ref A_POINT_RULES) := by
    rw [← e_A_POINT_RULES]
    exact He.glo_ok X G (c.t.d.fact 123 (f := .glo "POINT_RULES") rfl)
  obtain ⟨es_POINT_RULES, dn_POINT_RULES, KD_POINT_RULES⟩ := c.t.tab 1 (t := (fun K => He.ga K "POINT_RULES", ["in", "old", "times", "plus", "less", "move", "keep"])) rfl
  replace KD_POINT_RULES : KDict K w A_POINT_RULES es_POINT_RULES dn_POINT_RULES := by
    rw [← e_A_POINT_RULES]
    exact KD_POINT_RULES
  have d_POINT_RULES_in : PySem.W.nsIn K (He.ga K "POINT_RULES") "in" = some (some (.ref (He.ga K "in_point"))) := of_decide_eq_true (ex_at c.more (i := 53) (b := decide (PySem.W.nsIn K (He.ga K "POINT_RULES") "in" = some (some (.ref (He.ga K "in_point"))))) rfl)
  rw [e_A_POINT_RULES] at d_POINT_RULES_in
  have d_POINT_RULES_old : PySem.W.nsIn K (He.ga K "POINT_RULES") "old" = some (some (.ref (He.ga K "old_point"))) := of_decide_eq_true (ex_at c.more (i := 54) (b := decide (PySem.W.nsIn K (He.ga K "POINT_RULES") "old" = some (some (.ref (He.ga K "old_point"))))) rfl)
  rw [e_A_POINT_RULES] at d_POINT_RULES_old
  have d_POINT_RULES_times : PySem.W.nsIn K (He.ga K "POINT_RULES") "times" = some (some (.ref (He.ga K "times_point"))) := of_decide_eq_true (ex_at c.more (i := 55) (b := decide (PySem.W.nsIn K (He.ga K "POINT_RULES") "times" = some (some (.ref (He.ga K "times_point"))))) rfl)
  rw [e_A_POINT_RULES] at d_POINT_RULES_times
  have d_POINT_RULES_plus : PySem.W.nsIn K (He.ga K "POINT_RULES") "plus" = some (some (.ref (He.ga K "sum_point"))) := of_decide_eq_true (ex_at c.more (i := 56) (b := decide (PySem.W.nsIn K (He.ga K "POINT_RULES") "plus" = some (some (.ref (He.ga K "sum_point"))))) rfl)
  rw [e_A_POINT_RULES] at d_POINT_RULES_plus
  have d_POINT_RULES_less : PySem.W.nsIn K (He.ga K "POINT_RULES") "less" = some (some (.ref (He.ga K "sum_point"))) := of_decide_eq_true (ex_at c.more (i := 57) (b := decide (PySem.W.nsIn K (He.ga K "POINT_RULES") "less" = some (some (.ref (He.ga K "sum_point"))))) rfl)
  rw [e_A_POINT_RULES] at d_POINT_RULES_less
  have d_POINT_RULES_move : PySem.W.nsIn K (He.ga K "POINT_RULES") "move" = some (some (.ref (He.ga K "move_point"))) := of_decide_eq_true (ex_at c.more (i := 58) (b := decide (PySem.W.nsIn K (He.ga K "POINT_RULES") "move" = some (some (.ref (He.ga K "move_point"))))) rfl)
  rw [e_A_POINT_RULES] at d_POINT_RULES_move
  have d_POINT_RULES_keep : PySem.W.nsIn K (He.ga K "POINT_RULES") "keep" = some (some (.ref (He.ga K "keep_point"))) := of_decide_eq_true (ex_at c.more (i := 59) (b := decide (PySem.W.nsIn K (He.ga K "POINT_RULES") "keep" = some (some (.ref (He.ga K "keep_point"))))) rfl)
  rw [e_A_POINT_RULES] at d_POINT_RULES_keep
  have gm_ROW_LENGTHS : mg "ROW_LENGTHS" = some (.ref A_ROW_LENGTHS) := by
    rw [← e_A_ROW_LENGTHS]
    exact He.glo_ok X G (c.t.d.fact 124 (f := .glo "ROW_LENGTHS") rfl)
  obtain ⟨es_ROW_LENGTHS, dn_ROW_LENGTHS, KD_ROW_LENGTHS⟩ := c.t.tab 2 (t := (fun K => He.ga K "ROW_LENGTHS", ["in", "old", "times", "plus", "less", "move", "keep"])) rfl
  replace KD_ROW_LENGTHS : KDict K w A_ROW_LENGTHS es_ROW_LENGTHS dn_ROW_LENGTHS := by
    rw [← e_A_ROW_LENGTHS]
    exact KD_ROW_LENGTHS
  obtain ⟨tk_ROW_LENGTHS_in, d_ROW_LENGTHS_in⟩ : ∃ t, PySem.W.nsIn K A_ROW_LENGTHS "in" = some (some (.int 1 t)) := by
    rw [← e_A_ROW_LENGTHS]
    exact val_int (i := 0) (ex_at c.more (i := 60) (b := He.valsB K (He.ga K "ROW_LENGTHS") [("in", .int 1), ("old", .int 2), ("times", .int 4), ("plus", .int 3), ("less", .int 3), ("move", .int 3), ("keep", .int 3)]) rfl) rfl
  obtain ⟨tk_ROW_LENGTHS_old, d_ROW_LENGTHS_old⟩ : ∃ t, PySem.W.nsIn K A_ROW_LENGTHS "old" = some (some (.int 2 t)) := by
    rw [← e_A_ROW_LENGTHS]
    exact val_int (i := 1) (ex_at c.more (i := 60) (b := He.valsB K (He.ga K "ROW_LENGTHS") [("in", .int 1), ("old", .int 2), ("times", .int 4), ("plus", .int 3), ("less", .int 3), ("move", .int 3), ("keep", .int 3)]) rfl) rfl
  obtain ⟨tk_ROW_LENGTHS_times, d_ROW_LENGTHS_times⟩ : ∃ t, PySem.W.nsIn K A_ROW_LENGTHS "times" = some (some (.int 4 t)) := by
    rw [← e_A_ROW_LENGTHS]
    exact val_int (i := 2) (ex_at c.more (i := 60) (b := He.valsB K (He.ga K "ROW_LENGTHS") [("in", .int 1), ("old", .int 2), ("times", .int 4), ("plus", .int 3), ("less", .int 3), ("move", .int 3), ("keep", .int 3)]) rfl) rfl
  obtain ⟨tk_ROW_LENGTHS_plus, d_ROW_LENGTHS_plus⟩ : ∃ t, PySem.W.nsIn K A_ROW_LENGTHS "plus" = some (some (.int 3 t)) := by
    rw [← e_A_ROW_LENGTHS]
    exact val_int (i := 3) (ex_at c.more (i := 60) (b := He.valsB K (He.ga K "ROW_LENGTHS") [("in", .int 1), ("old", .int 2), ("times", .int 4), ("plus", .int 3), ("less", .int 3), ("move", .int 3), ("keep", .int 3)]) rfl) rfl
  obtain ⟨tk_ROW_LENGTHS_less, d_ROW_LENGTHS_less⟩ : ∃ t, PySem.W.nsIn K A_ROW_LENGTHS "less" = some (some (.int 3 t)) := by
    rw [← e_A_ROW_LENGTHS]
    exact val_int (i := 4) (ex_at c.more (i := 60) (b := He.valsB K (He.ga K "ROW_LENGTHS") [("in", .int 1), ("old", .int 2), ("times", .int 4), ("plus", .int 3), ("less", .int 3), ("move", .int 3), ("keep", .int 3)]) rfl) rfl
  obtain ⟨tk_ROW_LENGTHS_move, d_ROW_LENGTHS_move⟩ : ∃ t, PySem.W.nsIn K A_ROW_LENGTHS "move" = some (some (.int 3 t)) := by
    rw [← e_A_ROW_LENGTHS]
    exact val_int (i := 5) (ex_at c.more (i := 60) (b := He.valsB K (He.ga K "ROW_LENGTHS") [("in", .int 1), ("old", .int 2), ("times", .int 4), ("plus", .int 3), ("less", .int 3), ("move", .int 3), ("keep", .int 3)]) rfl) rfl
  obtain ⟨tk_ROW_LENGTHS_keep, d_ROW_LENGTHS_keep⟩ : ∃ t, PySem.W.nsIn K A_ROW_LENGTHS "keep" = some (some (.int 3 t)) := by
    rw [← e_A_ROW_LENGTHS]
    exact val_int (i := 6) (ex_at c.more (i := 60) (b := He.valsB K (He.ga K "ROW_LENGTHS") [("in", .int 1), ("old", .int 2), ("times", .int 4), ("plus", .int 3), ("less", .int 3), ("move", .int 3), ("keep", .int 3)]) rfl) rfl
  have fx_ha : PySem.W.findIn K (.ref (He.ga K "Form")) "__class__" = some (some (.builtin "object.__class__")) := of_decide_eq_true (ex_at c.more (i := 61) (b := decide (PySem.W.findIn K (.ref (He.ga K "Form")) "__class__" = some (some (.builtin "object.__class__")))) rfl)
  rw [e_C] at fx_ha
  have fx_hn : PySem.W.specialIn K (.builtin "object.__class__") "__get__" = some (some (.builtin "getset_descriptor.__get__")) := of_decide_eq_true (ex_at c.more (i := 62) (b := decide (PySem.W.specialIn K (.builtin "object.__class__") "__get__" = some (some (.builtin "getset_descriptor.__get__")))) rfl)
  have fx_ht : PySem.W.takesIn K (.builtin "object.__class__") = some true := of_decide_eq_true (ex_at c.more (i := 63) (b := decide (PySem.W.takesIn K (.builtin "object.__class__") = some true)) rfl)
  have fx_hm : PySem.W.mroIn K (He.ga K "Form") (.type "object") = some true := of_decide_eq_true (ex_at c.more (i := 64) (b := decide (PySem.W.mroIn K (He.ga K "Form") (.type "object") = some true)) rfl)
  rw [e_C] at fx_hm
  have fx_kC : PySem.W.kitOne K (.ref (He.ga K "Form")) (.ref (He.ga K "Form")) = some true := of_decide_eq_true (ex_at c.more (i := 65) (b := decide (PySem.W.kitOne K (.ref (He.ga K "Form")) (.ref (He.ga K "Form")) = some true)) rfl)
  rw [e_C] at fx_kC
  have fy_ha : PySem.W.findIn K (.ref (He.ga K "Net")) "__class__" = some (some (.builtin "object.__class__")) := of_decide_eq_true (ex_at c.more (i := 66) (b := decide (PySem.W.findIn K (.ref (He.ga K "Net")) "__class__" = some (some (.builtin "object.__class__")))) rfl)
  rw [e_CN] at fy_ha
  have fy_hm : PySem.W.mroIn K (He.ga K "Net") (.type "object") = some true := of_decide_eq_true (ex_at c.more (i := 67) (b := decide (PySem.W.mroIn K (He.ga K "Net") (.type "object") = some true)) rfl)
  rw [e_CN] at fy_hm
  have fy_kC : PySem.W.kitOne K (.ref (He.ga K "Net")) (.ref (He.ga K "Net")) = some true := of_decide_eq_true (ex_at c.more (i := 68) (b := decide (PySem.W.kitOne K (.ref (He.ga K "Net")) (.ref (He.ga K "Net")) = some true)) rfl)
  rw [e_CN] at fy_kC
  have zf_isinstance : mg "isinstance" = none := He.free_ok X G (c.t.d.fact 125 (f := .free "isinstance") rfl)
  have zf_int : mg "int" = none := He.free_ok X G (c.t.d.fact 126 (f := .free "int") rfl)
  have zf_bool : mg "bool" = none := He.free_ok X G (c.t.d.fact 127 (f := .free "bool") rfl)
  have zf_abs : mg "abs" = none := He.free_ok X G (c.t.d.fact 128 (f := .free "abs") rfl)
  have zf_str : mg "str" = none := He.free_ok X G (c.t.d.fact 129 (f := .free "str") rfl)
  have zf_len : mg "len" = none := He.free_ok X G (c.t.d.fact 130 (f := .free "len") rfl)
  have zf_max : mg "max" = none := He.free_ok X G (c.t.d.fact 131 (f := .free "max") rfl)
  have zf_tuple : mg "tuple" = none := He.free_ok X G (c.t.d.fact 132 (f := .free "tuple") rfl)
  have zf_list : mg "list" = none := He.free_ok X G (c.t.d.fact 133 (f := .free "list") rfl)
  have zf_enumerate : mg "enumerate" = none := He.free_ok X G (c.t.d.fact 134 (f := .free "enumerate") rfl)
  have zf_all : mg "all" = none := He.free_ok X G (c.t.d.fact 135 (f := .free "all") rfl)
  have zf_zip : mg "zip" = none := He.free_ok X G (c.t.d.fact 136 (f := .free "zip") rfl)
  have zf_range : mg "range" = none := He.free_ok X G (c.t.d.fact 137 (f := .free "range") rfl)
  have zf_min : mg "min" = none := He.free_ok X G (c.t.d.fact 138 (f := .free "min") rfl)
  have zf_sorted : mg "sorted" = none := He.free_ok X G (c.t.d.fact 139 (f := .free "sorted") rfl)
  have kb_run := FunD.kbn (n := 0) (ks := ["state", "words", "net"]) (ps := ["net", "words", "state"]) F_run (by simp) (g := fun us ws => us ++ ws.reverse) (gV := fun vs zs => vs ++ zs.reverse) (fun r s => Vals.append r (Vals.rev s)) fun _ _ _ _ _ _ _ us ws its h1 h2 h3 => match us, ws, its, h1, h2, h3 with | [], [_, _, _], [_], _, _, _ => ⟨_, rfl, rfl⟩
  have kb_turn := Fun.kbn (n := 1) (ks := ["word"]) (ps := ["self", "word"]) F_Machine_turn (g := fun us ws => us ++ ws) (gV := fun vs zs => vs ++ zs) (fun r s => Vals.append r s) fun _ _ _ _ _ _ us ws h1 h2 => match us, ws, h1, h2 with | [_], [_], _, _ => rfl
  have z : Zs mg := ⟨zf_isinstance, zf_int, zf_bool, zf_abs, zf_str, zf_len, zf_max, zf_tuple, zf_list, zf_enumerate, zf_all, zf_zip, zf_range, zf_min, zf_sorted⟩
  have e := hfa.symm.trans (PySem.W.mg_of X G a_law)
  cases e
  have FL_law : FunD K "law" "law" (defArgs s_law) (defBody s_law) (defScope s_law) [] [] (He.ga K "law") fd_law := F0_law
  have bl := FunD.bindsA (ps := ["_law_script"]) FL_law fun _ _ _ _ _ _ us hl => match us, hl with | [_], _ => rfl
  have pick : ∀ {Q : Addr × Addr → Prop}, (∀ p ∈ TF, Q (He.cT K p)) → ∀ p ∈ [He.cT K ("law", none), He.cT K ("_law_machine_right", none)], Q p := fun {Q} h p hp => by
    have e : [He.cT K ("law", none), He.cT K ("_law_machine_right", none)] = TF.map (He.cT K) := rfl
    rw [e] at hp
    obtain ⟨t, ht, e2⟩ := List.mem_map.mp hp
    rw [← e2]
    exact h t ht
  refine ⟨_, [He.cT K ("law", none), He.cT K ("_law_machine_right", none)], spLaw30 K (He.cT K ("law", none)).2 (He.cT K ("_law_machine_right", none)).2, pick (Q := fun p => h.get? p.2 = some { cls := .none, data := .fields #[] }) c.empty, pick (Q := fun p => K.lookup p.2 = none) c.out, pick (Q := fun p => PySem.W.CodeHd h p.1 p.2) fun p hp => PySem.W.codeHd_of_K X (c.hd p hp), fun s v => bl s [v] rfl, fun H a ns hl _ hH hS => ⟨a, ns, rfl, hS, hl, (tabs_one (hH _ List.mem_cons_self) (tabs_one (hH _ (List.mem_cons_of_mem _ List.mem_cons_self)) tabs_nil)), fun _ => rfl⟩, fun base _ _ TBs => ?_⟩
  have TB_0 := TBs _ List.mem_cons_self
  have TB_1 := TBs _ (List.mem_cons_of_mem _ List.mem_cons_self)
  have c_is_whole : Cal l.prog w K mg base 1 "is_whole" ["thing"] _ := ⟨_, _, PySem.W.mg_of X G a_is_whole, k_is_whole, b_is_whole, ok_is_whole (k := 0) F_is_whole z⟩
  have c_downward : Cal l.prog w K mg base 1 "downward" ["top", "bottom"] _ := ⟨_, _, PySem.W.mg_of X G a_downward, k_downward, b_downward, ok_downward (k := 0) F_downward⟩
  have c_upward : Cal l.prog w K mg base 1 "upward" ["top", "bottom"] _ := ⟨_, _, PySem.W.mg_of X G a_upward, k_upward, b_upward, ok_upward (k := 0) F_upward⟩
  have c_nearest_greater : Cal l.prog w K mg base 1 "nearest_greater" ["top", "bottom"] _ := ⟨_, _, PySem.W.mg_of X G a_nearest_greater, k_nearest_greater, b_nearest_greater, ok_nearest_greater (k := 0) F_nearest_greater⟩
  have MM : Mans l.prog w K mg base A_MANNERS es_MANNERS dn_MANNERS := ⟨gm_MANNERS, KD_MANNERS, fun m => match m with
    | .down => ⟨_, _, d_MANNERS_down, k_downward, b_downward, ok_downward (k := 1) F_downward⟩
    | .up => ⟨_, _, d_MANNERS_up, k_upward, b_upward, ok_upward (k := 1) F_upward⟩
    | .inn => ⟨_, _, d_MANNERS_in, k_inward, b_inward, ok_inward F_inward c_downward c_upward⟩
    | .out => ⟨_, _, d_MANNERS_out, k_outward, b_outward, ok_outward F_outward c_downward c_upward⟩
    | .half => ⟨_, _, d_MANNERS_half, k_nearest_greater, b_nearest_greater, ok_nearest_greater (k := 1) F_nearest_greater⟩
    | .even => ⟨_, _, d_MANNERS_even, k_nearest_even, b_nearest_even, ok_nearest_even F_nearest_even c_nearest_greater⟩
    | .far => ⟨_, _, d_MANNERS_far, k_nearest_far, b_nearest_far, ok_nearest_far F_nearest_far c_nearest_greater⟩⟩
  have c_is_manner : Cal l.prog w K mg base 1 "is_manner" ["thing"] _ := ⟨_, _, PySem.W.mg_of X G a_is_manner, k_is_manner, b_is_manner, ok_is_manner (k := 0) MM F_is_manner z⟩
  have c_rounded : Cal l.prog w K mg base 3 "rounded" ["value", "manner"] _ := ⟨_, _, PySem.W.mg_of X G a_rounded, k_rounded, b_rounded, ok_rounded MM F_rounded c_is_manner⟩
  have Z : FCst K mg A_ENDS := ⟨⟨_, gm_LEAST_WIDTH⟩, ⟨_, gm_GREATEST_WIDTH⟩, ⟨_, gm_GREATEST_POINT⟩, gm_ENDS, T_ENDS⟩
  have NC : NCst mg := ⟨⟨_, gm_FACTOR_END⟩, ⟨_, gm_GREATEST_SHIFT⟩, ⟨_, gm_GREATEST_ROW_POINT⟩, ⟨_, gm_MOST_FORMS⟩, ⟨_, gm_MOST_ROWS⟩, ⟨_, gm_MOST_HOLDS⟩⟩
  have c_is_width : Cal l.prog w K mg base 2 "is_width" ["thing"] _ := ⟨_, _, PySem.W.mg_of X G a_is_width, k_is_width, b_is_width, ok_is_width Z F_is_width c_is_whole⟩
  have c_is_point : Cal l.prog w K mg base 2 "is_point" ["thing"] _ := ⟨_, _, PySem.W.mg_of X G a_is_point, k_is_point, b_is_point, ok_is_point Z F_is_point z c_is_whole⟩
  have c_is_ends : Cal l.prog w K mg base 1 "is_ends" ["thing"] _ := ⟨_, _, PySem.W.mg_of X G a_is_ends, k_is_ends, b_is_ends, ok_is_ends (k := 0) Z F_is_ends z⟩
  have T : FTxt K mg C := ⟨⟨pg_C, hd_C, po_C, sa_C⟩, n_C_width, n_C_point, n_C_manner, n_C_ends⟩
  have TN : NTxt K mg CN := ⟨⟨pg_CN, hd_CN, po_CN, sa_CN⟩, n_CN_form_list, n_CN_enters_at, n_CN_row_list, n_CN_hold_list, n_CN_out_at, n_CN_point_list⟩
  have IC : IsC K mg C := ⟨PySem.W.mg_of X G aC_C, fx_ha, fx_hn, fx_ht, fx_hm, fx_kC⟩
  have IN : IsN K mg CN := ⟨PySem.W.mg_of X G aC_CN, fy_ha, fx_hn, fx_ht, fy_hm, fy_kC⟩
  have c_Form_4 : CalC l.prog w K mg base 3 "Form" C ["self", "width", "point", "manner", "ends"] [] _ := ⟨_, _, _, ⟨mk_C, a_Form___init__, i_Form___init__, kc_C⟩, PySem.W.mg_of X G aC_C, .nil, b_Form4, ok_Form___init__ T F_Form___init__ c_is_width c_is_point c_is_manner c_is_ends⟩
  have m_least : CalM l.prog w K mg base 1 C "least" ["self"] _ := ⟨_, _, ⟨a_Form_least, i_Form_least, k_Form_least⟩, b_Form_least, ok_Form_least (k := 0) T F_Form_least⟩
  have m_greatest : CalM l.prog w K mg base 1 C "greatest" ["self"] _ := ⟨_, _, ⟨a_Form_greatest, i_Form_greatest, k_Form_greatest⟩, b_Form_greatest, ok_Form_greatest (k := 0) T F_Form_greatest⟩
  have m_has : CalM l.prog w K mg base 2 C "has" ["self", "thing"] _ := ⟨_, _, ⟨a_Form_has, i_Form_has, k_Form_has⟩, b_Form_has, ok_Form_has T F_Form_has c_is_whole m_least m_greatest⟩
  have m_word_for : CalM l.prog w K mg base 3 C "word_for" ["self", "number"] _ := ⟨_, _, ⟨a_Form_word_for, i_Form_word_for, k_Form_word_for⟩, b_Form_word_for, ok_Form_word_for T F_Form_word_for m_has m_least m_greatest⟩
  have m_ended : CalM l.prog w K mg base 4 C "ended" ["self", "number"] _ := ⟨_, _, ⟨a_Form_ended, i_Form_ended, k_Form_ended⟩, b_Form_ended, ok_Form_ended T F_Form_ended m_word_for⟩
  have m_kept_at : CalM l.prog w K mg base 5 C "kept_at" ["self", "number", "point"] _ := ⟨_, _, ⟨a_Form_kept_at, i_Form_kept_at, k_Form_kept_at⟩, b_Form_kept_at, ok_Form_kept_at T F_Form_kept_at c_rounded m_ended⟩
  have c_is_place : Cal l.prog w K mg base 2 "is_place" ["thing", "many"] _ := ⟨_, _, PySem.W.mg_of X G a_is_place, k_is_place, b_is_place, ok_is_place F_is_place c_is_whole⟩
  have c_is_factor : Cal l.prog w K mg base 2 "is_factor" ["thing"] _ := ⟨_, _, PySem.W.mg_of X G a_is_factor, k_is_factor, b_is_factor, ok_is_factor NC F_is_factor z c_is_whole⟩
  have RU : Ruls l.prog w K mg base A_POINT_RULES es_POINT_RULES dn_POINT_RULES := ⟨gm_POINT_RULES, KD_POINT_RULES, fun k => match k with
    | .inn => ⟨_, _, d_POINT_RULES_in, k_in_point, b_in_point, ok_in_point F_in_point⟩
    | .old => ⟨_, _, d_POINT_RULES_old, k_old_point, b_old_point, ok_old_point z c_is_place F_old_point⟩
    | .times => ⟨_, _, d_POINT_RULES_times, k_times_point, b_times_point, ok_times_point NC z c_is_factor c_is_place F_times_point⟩
    | .plus => ⟨_, _, d_POINT_RULES_plus, k_sum_point, b_sum_point, ok_sum_point_plus z c_is_place F_sum_point⟩
    | .less => ⟨_, _, d_POINT_RULES_less, k_sum_point, b_sum_point, ok_sum_point_less z c_is_place F_sum_point⟩
    | .move => ⟨_, _, d_POINT_RULES_move, k_move_point, b_move_point, ok_move_point NC z c_is_whole c_is_place F_move_point⟩
    | .keep => ⟨_, _, d_POINT_RULES_keep, k_keep_point, b_keep_point, ok_keep_point z c_is_place F_keep_point⟩⟩
  have LE : Lens w K mg A_ROW_LENGTHS es_ROW_LENGTHS dn_ROW_LENGTHS := ⟨gm_ROW_LENGTHS, KD_ROW_LENGTHS, fun k => match k with
    | .inn => ⟨_, d_ROW_LENGTHS_in⟩
    | .old => ⟨_, d_ROW_LENGTHS_old⟩
    | .times => ⟨_, d_ROW_LENGTHS_times⟩
    | .plus => ⟨_, d_ROW_LENGTHS_plus⟩
    | .less => ⟨_, d_ROW_LENGTHS_less⟩
    | .move => ⟨_, d_ROW_LENGTHS_move⟩
    | .keep => ⟨_, d_ROW_LENGTHS_keep⟩⟩
  have c_is_written_as_row : Cal l.prog w K mg base 1 "is_written_as_row" ["thing"] _ := ⟨_, _, PySem.W.mg_of X G a_is_written_as_row, k_is_written_as_row, b_is_written_as_row, ok_is_written_as_row (k := 0) LE F_is_written_as_row z⟩
  have c_row_point : Cal l.prog w K mg base 4 "row_point" ["row", "points", "given"] _ := ⟨_, _, PySem.W.mg_of X G a_row_point, k_row_point, b_row_point, ok_row_point RU NC F_row_point z c_is_written_as_row⟩
  have c_check_length : Cal l.prog w K mg base 1 "check_length" ["thing", "part", "least", "most"] _ := ⟨_, _, PySem.W.mg_of X G a_check_length, k_check_length, b_check_length, ok_check_length (k := 0) F_check_length z⟩
  have c_check_forms : Cal l.prog w K mg base 2 "check_forms" ["forms"] _ := ⟨_, _, PySem.W.mg_of X G a_check_forms, k_check_forms, b_check_forms, ok_check_forms T IC NC F_check_forms z c_check_length⟩
  have c_is_hold : Cal l.prog w K mg base 3 "is_hold" ["thing", "forms"] _ := ⟨_, _, PySem.W.mg_of X G a_is_hold, k_is_hold, b_is_hold, ok_is_hold T F_is_hold z c_is_place m_has⟩
  have c_check_holds : Cal l.prog w K mg base 4 "check_holds" ["holds", "forms"] _ := ⟨_, _, PySem.W.mg_of X G a_check_holds, k_check_holds, b_check_holds, ok_check_holds NC F_check_holds z c_check_length c_is_hold⟩
  have c_checked_points : Cal l.prog w K mg base 5 "checked_points" ["rows", "given"] _ := ⟨_, _, PySem.W.mg_of X G a_checked_points, k_checked_points, b_checked_points, ok_checked_points NC F_checked_points z c_check_length c_row_point⟩
  have c_check_links : Cal l.prog w K mg base 3 "check_links" ["holds", "rows"] _ := ⟨_, _, PySem.W.mg_of X G a_check_links, k_check_links, b_check_links, ok_check_links F_check_links z c_is_place⟩
  have c_Net_5 : CalC l.prog w K mg base 6 "Net" CN ["self", "forms", "enters", "rows", "holds", "out"] [] _ := ⟨_, _, _, ⟨mk_CN, a_Net___init__, i_Net___init__, kc_CN⟩, PySem.W.mg_of X G aC_CN, .nil, b_Net___init__, ok_Net___init__ T TN F_Net___init__ z c_check_forms c_is_place c_check_holds c_checked_points c_check_links⟩
  have n_forms : CalM l.prog w K mg base 1 CN "forms" ["self"] _ := ⟨_, _, ⟨a_Net_forms, i_Net_forms, k_Net_forms⟩, b_Net_forms, ok_Net_forms (C := C) (k := 0) TN F_Net_forms z⟩
  have n_rows : CalM l.prog w K mg base 1 CN "rows" ["self"] _ := ⟨_, _, ⟨a_Net_rows, i_Net_rows, k_Net_rows⟩, b_Net_rows, ok_Net_rows (C := C) (k := 0) TN F_Net_rows z⟩
  have n_holds : CalM l.prog w K mg base 1 CN "holds" ["self"] _ := ⟨_, _, ⟨a_Net_holds, i_Net_holds, k_Net_holds⟩, b_Net_holds, ok_Net_holds (C := C) (k := 0) TN F_Net_holds z⟩
  have n_points : CalM l.prog w K mg base 1 CN "points" ["self"] _ := ⟨_, _, ⟨a_Net_points, i_Net_points, k_Net_points⟩, b_Net_points, ok_Net_points (C := C) (k := 0) TN F_Net_points z⟩
  have n_enters : CalM l.prog w K mg base 1 CN "enters" ["self"] _ := ⟨_, _, ⟨a_Net_enters, i_Net_enters, k_Net_enters⟩, b_Net_enters, ok_Net_enters (C := C) (k := 0) TN F_Net_enters⟩
  have c_enter_form : Cal l.prog w K mg base 2 "enter_form" ["net"] _ := ⟨_, _, PySem.W.mg_of X G a_enter_form, k_enter_form, b_enter_form, ok_enter_form TN F_enter_form n_forms n_enters⟩
  have c_sum_number : Cal l.prog w K mg base 1 "sum_number" ["row", "numbers", "points"] _ := ⟨_, _, PySem.W.mg_of X G a_sum_number, k_sum_number, b_sum_number, ok_sum_number (k := 0) F_sum_number z⟩
  have okR := ok_number_of_row (base := base) (P := l.prog) (w := w) T F_number_of_row m_kept_at c_sum_number
  have c_swept : Cal l.prog w K mg base 7 "swept" ["net", "heard", "held", "rule"] _ := ⟨_, _, PySem.W.mg_of X G a_swept, k_swept, b_swept, ok_swept okR k_number_of_row b_number_of_row TN F_swept n_forms n_points n_rows⟩
  have c_is_state : Cal l.prog w K mg base 3 "is_state" ["net", "thing"] _ := ⟨_, _, PySem.W.mg_of X G a_is_state, k_is_state, b_is_state, ok_is_state T TN F_is_state z n_forms n_holds m_has⟩
  have c_check_state : Cal l.prog w K mg base 4 "check_state" ["net", "state"] _ := ⟨_, _, PySem.W.mg_of X G a_check_state, k_check_state, b_check_state, ok_check_state F_check_state c_is_state⟩
  have c_check_word : Cal l.prog w K mg base 3 "check_word" ["net", "word"] _ := ⟨_, _, PySem.W.mg_of X G a_check_word, k_check_word, b_check_word, ok_check_word T F_check_word c_enter_form m_has⟩
  have c_state_behind : Cal l.prog w K mg base 2 "state_behind" ["net", "numbers"] _ := ⟨_, _, PySem.W.mg_of X G a_state_behind, k_state_behind, b_state_behind, ok_state_behind TN F_state_behind z n_holds⟩
  have c_turn_of : Cal l.prog w K mg base 8 "turn_of" ["net", "state", "word"] _ := ⟨_, _, PySem.W.mg_of X G a_turn_of, k_turn_of, b_turn_of, ok_turn_of (PySem.W.mg_of X G a_number_of_row) F_turn_of c_swept c_state_behind⟩
  have n_start : CalM l.prog w K mg base 1 CN "start" ["self"] _ := ⟨_, _, ⟨a_Net_start, i_Net_start, k_Net_start⟩, b_Net_start, ok_Net_start (C := C) (k := 0) TN F_Net_start z⟩
  have n_out : CalM l.prog w K mg base 1 CN "out" ["self"] _ := ⟨_, _, ⟨a_Net_out, i_Net_out, k_Net_out⟩, b_Net_out, ok_Net_out (C := C) (k := 0) TN F_Net_out⟩
  have c_first_state : Cal l.prog w K mg base 5 "first_state" ["net", "state"] _ := ⟨_, _, PySem.W.mg_of X G a_first_state, k_first_state, b_first_state, ok_first_state TN F_first_state n_start c_check_state⟩
  have n_keeps : CalM l.prog w K mg base 1 CN "keeps" ["self"] _ := ⟨_, _, ⟨a_Net_keeps, i_Net_keeps, k_Net_keeps⟩, b_Net_keeps, ok_Net_keeps (C := C) (k := 0) TN F_Net_keeps z⟩
  have c_went_over : Cal l.prog w K mg base 6 "went_over" ["net", "row", "numbers"] _ := ⟨_, _, PySem.W.mg_of X G a_went_over, k_went_over, b_went_over, ok_went_over T TN F_went_over n_forms n_rows n_points m_kept_at⟩
  have c_overs_machines : Cal l.prog w K mg base 7 "overs_machines" ["net", "numbers"] _ := ⟨_, _, PySem.W.mg_of X G a_overs_machines, k_overs, b_overs, ok_overs TN F_overs n_keeps c_went_over⟩
  have TM : MTxt K mg CM := ⟨⟨pg_CM, hd_CM, po_CM, sa_CM⟩, n_CM_first, n_CM_net, n_CM_past⟩
  have x_turns : CalM l.prog w K mg base 1 CM "turns" ["self"] _ := ⟨_, _, ⟨a_Machine_turns, i_Machine_turns, k_Machine_turns⟩, b_Machine_turns, ok_Machine_turns (C := C) (CN := CN) (k := 0) TM F_Machine_turns z⟩
  have x_went : CalM l.prog w K mg base 1 CM "went" ["self"] _ := ⟨_, _, ⟨a_Machine_went, i_Machine_went, k_Machine_went⟩, b_Machine_went, ok_Machine_went (C := C) (CN := CN) (k := 0) TM F_Machine_went z⟩
  have x_numbers : CalM l.prog w K mg base 1 CM "numbers" ["self"] _ := ⟨_, _, ⟨a_Machine_numbers, i_Machine_numbers, k_Machine_numbers⟩, b_Machine_numbers, ok_Machine_numbers (C := C) (CN := CN) (k := 0) TM F_Machine_numbers z⟩
  have x_overs : CalM l.prog w K mg base 1 CM "overs" ["self"] _ := ⟨_, _, ⟨a_Machine_overs, i_Machine_overs, k_Machine_overs⟩, b_Machine_overs, ok_Machine_overs (C := C) (CN := CN) (k := 0) TM F_Machine_overs z⟩
  have x_state : CalM l.prog w K mg base 1 CM "state" ["self"] _ := ⟨_, _, ⟨a_Machine_state, i_Machine_state, k_Machine_state⟩, b_Machine_state, ok_Machine_state (C := C) (CN := CN) (k := 0) TM F_Machine_state⟩
  have c_Machine_2 : CalC l.prog w K mg base 6 "Machine" CM ["self", "net", "state"] [] _ := ⟨_, _, _, ⟨mk_CM, a_Machine___init__, i_Machine___init__, kc_CM⟩, PySem.W.mg_of X G aC_CM, .nil, b_Mach3, ok_Machine___init__ TM F_Machine___init__ c_first_state⟩
  have IU := unfit_ini (w := w) ih_CU.dfl EC_CU IC_CU
  have NB : OwnX K mg "BadState" CB := ⟨PySem.W.mg_of X G aC_CB, nb_x, nb_k, nb_b, nb_t⟩
  have XX : Errs30 K mg CE CB CU CN9 CT := ⟨PySem.W.mg_of X G aC_CE, PySem.W.mg_of X G aC_CB, PySem.W.mg_of X G aC_CU, PySem.W.mg_of X G aC_CN9, PySem.W.mg_of X G aC_CT, ⟨nb_ga, nb_gg, nb_b, nb_hd, nb_ha, nb_hn, nb_ht, nb_hm⟩, XC_CU, nf_CU, xm_CB, xm_CU, ki_CB_CB, ki_CB_CU, ki_CB_CN9, ki_CB_CT, ki_CU_CB, ki_CU_CU, ki_CU_CN9, ki_CU_CT⟩
  have c_is_state2 : Cal l.prog w K mg base 3 "is_state" ["net", "thing"] _ := ⟨_, _, PySem.W.mg_of X G a_is_state, k_is_state, b_is_state, FnOk.or (ok_is_state T TN F_is_state z n_forms n_holds m_has) (ok_is_stateN T TN F_is_state z n_forms n_holds m_has)⟩
  have cx_check_state : CalX l.prog w K mg base 4 "check_state" ["net", "state"] [] _ := ⟨_, _, _, PySem.W.mg_of X G a_check_state, k_check_state, .nil, b_check_state, ok_check_stateX NB F_check_state c_is_state2⟩
  have cx_first_state : CalX l.prog w K mg base 5 "first_state" ["net", "state"] [] _ := ⟨_, _, _, PySem.W.mg_of X G a_first_state, k_first_state, .nil, b_first_state, ok_first_stateX TN F_first_state n_start cx_check_state⟩
  have cx_check_run : CalX l.prog w K mg base 3 "check_run" ["net", "words"] [] _ := ⟨_, _, _, PySem.W.mg_of X G a_check_run, k_check_run, .nil, b_check_run, ok_check_runX T EC_CU IU F_check_run z c_enter_form m_has⟩
  have cx_check_word : CalX l.prog w K mg base 3 "check_word" ["net", "word"] [] _ := ⟨_, _, _, PySem.W.mg_of X G a_check_word, k_check_word, .nil, b_check_word, ok_check_wordX T EC_CU IU F_check_word c_enter_form m_has⟩
  have cx_turned : CalX l.prog w K mg base 9 "turned" ["net", "state", "word"] [] _ := ⟨_, _, _, PySem.W.mg_of X G a_turned, k_turned, .nil, b_turned, ok_turnedX F_turned cx_check_state cx_check_word c_turn_of⟩
  have okX := ok_runX (base := base) (P := l.prog) (w := w) TN F_run z n_out cx_first_state cx_check_run c_turn_of
  have cx_run_3 : CalX l.prog w K mg base 9 "run" ["net", "words", "state"] [] _ := ⟨_, _, _, PySem.W.mg_of X G a_run, k_run, .nil, b_run3, okX⟩
  have cx_run_2 : CalX l.prog w K mg base 9 "run" ["net", "words", "state"] [V.non] _ := ⟨_, _, _, PySem.W.mg_of X G a_run, k_run, dv_run2, b_run2, okX⟩
  have ck_run : CalXK l.prog w K mg base 9 "run" ["net", "words", "state"] 0 ["state", "words", "net"] (fun vs zs => vs ++ zs.reverse) _ := ⟨_, _, _, PySem.W.mg_of X G a_run, k_run, kb_run, okX⟩
  have c_MachineX : CalCX l.prog w K mg base 6 "Machine" CM ["self", "net", "state"] [] _ := ⟨_, _, _, ⟨mk_CM, a_Machine___init__, i_Machine___init__, kc_CM⟩, PySem.W.mg_of X G aC_CM, .nil, b_Mach3, ok_Machine___init__X TM F_Machine___init__ cx_first_state⟩
  have c_check_run : Cal l.prog w K mg base 3 "check_run" ["net", "words"] _ := ⟨_, _, PySem.W.mg_of X G a_check_run, k_check_run, b_check_run, ok_check_run T F_check_run z c_enter_form m_has⟩
  have c_run : Cal l.prog w K mg base 9 "run" ["net", "words", "state"] _ := ⟨_, _, PySem.W.mg_of X G a_run, k_run, b_run3, ok_run TN F_run z n_out c_first_state c_check_run c_turn_of⟩
  have x_turn : CalM l.prog w K mg base 9 CM "turn" ["self", "word"] _ := ⟨_, _, ⟨a_Machine_turn, i_Machine_turn, k_Machine_turn⟩, b_Machine_turn, ok_Machine_turn TN TM F_Machine_turn n_out x_state c_check_word c_turn_of c_overs_machines⟩
  have okT := ok_Machine_turnX (C := C) (base := base) (P := l.prog) (w := w) TN TM F_Machine_turn n_out x_state cx_check_word c_turn_of c_overs_machines
  have xx_turn : CalMX l.prog w K mg base 9 CM "turn" ["self", "word"] _ := ⟨_, _, ⟨a_Machine_turn, i_Machine_turn, k_Machine_turn⟩, b_Machine_turn, okT⟩
  have xk_turn : CalMXK l.prog w K mg base 9 CM "turn" ["self", "word"] ["word"] (fun vs zs => vs ++ zs) _ := ⟨_, _, _, ⟨a_Machine_turn, i_Machine_turn, k_Machine_turn⟩, kb_turn, okT⟩
  have c__law_cell_at : Cal l.prog w K mg base 1 "_law_cell_at" ["_law_script", "_law_k"] _ := ⟨_, _, PySem.W.mg_of X G a__law_cell_at, k__law_cell_at, b__law_cell_at, ok_cell (k := 0) F__law_cell_at z.len⟩
  have c__law_well : Cal l.prog w K mg base 1 "_law_well" ["_law_cell"] _ := ⟨_, _, PySem.W.mg_of X G a__law_well, k__law_well, b__law_well, ok_well (k := 0) F__law_well z.int⟩
  have c__law_draw : Cal l.prog w K mg base 1 "_law_draw" ["_law_well_here", "_law_many"] _ := ⟨_, _, PySem.W.mg_of X G a__law_draw, k__law_draw, b__law_draw, ok_draw (k := 0) F__law_draw⟩
  have c__law_form : Cal l.prog w K mg base 2 "_law_form" ["_law_well_here", "_law_free", "_law_reach"] _ := ⟨_, _, PySem.W.mg_of X G a__law_form, k__law_form, b__law_form, ok__law_form F__law_form c__law_draw⟩
  have c__law_word : Cal l.prog w K mg base 2 "_law_word" ["_law_well_here", "_law_form_here"] _ := ⟨_, _, PySem.W.mg_of X G a__law_word, k__law_word, b__law_word, ok__law_word F__law_word c__law_draw⟩
  have c__law_row : Cal l.prog w K mg base 2 "_law_row" ["_law_well_here", "_law_count", "_law_at", "_law_free", "_law_reach", "_law_held"] _ := ⟨_, _, PySem.W.mg_of X G a__law_row, k__law_row, b__law_row, ok__law_row F__law_row c__law_draw⟩
  have c__law_begin : Cal l.prog w K mg base 2 "_law_begin" ["_law_well_here", "_law_held"] _ := ⟨_, _, PySem.W.mg_of X G a__law_begin, k__law_begin, b__law_begin, ok__law_begin F__law_begin z c__law_draw⟩
  have c__law_mixed : Cal l.prog w K mg base 2 "_law_mixed" ["_law_well_here", "_law_made_here", "_law_reach"] _ := ⟨_, _, PySem.W.mg_of X G a__law_mixed, k__law_mixed, b__law_mixed, ok__law_mixed F__law_mixed z c__law_draw⟩
  have c__law_link : Cal l.prog w K mg base 2 "_law_link" ["_law_well_here", "_law_made_here", "_law_kind", "_law_last"] _ := ⟨_, _, PySem.W.mg_of X G a__law_link, k__law_link, b__law_link, ok__law_link F__law_link z c__law_draw⟩
  have c__law_net : Cal l.prog w K mg base 3 "_law_net" ["_law_well_here"] _ := ⟨_, _, PySem.W.mg_of X G a__law_net, k__law_net, b__law_net, ok__law_net F__law_net z c__law_draw c__law_form c__law_word c__law_row c__law_begin c__law_mixed c__law_link⟩
  have c__law_made : Cal l.prog w K mg base 8 "_law_made" ["_law_house"] _ := ⟨_, _, PySem.W.mg_of X G a__law_made, k__law_made, b__law_made, ok__law_made F__law_made z c_Form_4 c_Net_5⟩
  have c__law_bad_word : Cal l.prog w K mg base 2 "_law_bad_word" ["_law_well_here", "_law_form_here"] _ := ⟨_, _, PySem.W.mg_of X G a__law_bad_word, k__law_bad_word, b__law_bad_word, ok__law_bad_word F__law_bad_word z c__law_draw⟩
  have c__law_bad_state : Cal l.prog w K mg base 3 "_law_bad_state" ["_law_well_here", "_law_parts", "_law_stand"] _ := ⟨_, _, PySem.W.mg_of X G a__law_bad_state, k__law_bad_state, b__law_bad_state, ok__law_bad_state F__law_bad_state z c__law_draw c__law_bad_word⟩
  have c__law_machine_right : Cal l.prog w K mg base 12 "_law_machine_right" ["_law_house", "_law_stand", "_law_entry", "_law_bad", "_law_nowhere"] _ := ⟨_, _, PySem.W.mg_of X G a__law_machine_right, k__law_machine_right, b__law_machine_right, ok_machine_right TM FC__law_machine_right z XX EC_CU TB_1 nP F__law_said (PySem.W.mg_of X G a__law_said) b__law_said c_Machine_2 c_MachineX x_turn xx_turn xk_turn x_state x_turns x_numbers x_overs x_went c_run⟩
  exact ok_law (CM := CM) FC_law z XX EC_CU TB_0 nP F__law_said (PySem.W.mg_of X G a__law_said) b__law_said c__law_cell_at c__law_well c__law_draw c__law_net c__law_made c__law_word c__law_bad_word c__law_bad_state c__law_machine_right cx_turned cx_run_3 cx_run_2 ck_run

end E1

open PySem PySem.W PySem.Calls PyProof.Rows
set_option maxRecDepth 100000 in
set_option maxHeartbeats 0 in
theorem PySem.Challenge.cw_echobound_k30_turns_refused_holds : PySem.Challenge.rw_echobound_k30_turns_refused.Holds := by
  w_on; o_law
  refine HandSHeadRun.head_any (r := OpenLaw.row PySem.Challenge.rw_echobound_k30_turns_refused) (q := HX.qv) (H := HX.hk) (ob := HX.ob) (M := 6174) (loose := HX.names) (d := HandSHeadRun.topDef (OpenLaw.row PySem.Challenge.rw_echobound_k30_turns_refused).prog 97) (kwd := []) HX.ob_eq (by kernel_rfl) (fun s => by kernel_rfl) HX.run (by kernel_rfl) (by kernel_rfl) (by kernel_rfl) (by rfl) (by first | assumption | decide +kernel) (by decide +kernel) ⟨rfl, rfl, rfl, rfl, rfl, by decide +kernel⟩ ?hw ?hc
  case hw => w_witness2
  case hc =>
    refine LamX.walk_ofTsE (l := PySem.Challenge.rw_echobound_k30_turns_refused) (n := 63) (k := 13) (x := "_law_script") (CX := fun _ => L2.CX0) rfl (by decide) (by kernel_rfl) ⟨rfl, by decide, by decide⟩ ?F (fun _ _ _ _ _ z => z)
    intro w mg fa h Y G hmg0
    obtain ⟨K, KX, c⟩ := Y
    have hmg : mg ("law" : PySem.Str) = some (.ref fa) := by
      have e : (HandSHeadRun.topDef (OpenLaw.row PySem.Challenge.rw_echobound_k30_turns_refused).prog 97).name = ("law" : PySem.Str) := by kernel_rfl
      rw [← e]
      exact hmg0
    exact ⟨K, KX, E1.all_mk (l := PySem.Challenge.rw_echobound_k30_turns_refused) rfl rfl rfl rfl rfl rfl rfl rfl rfl rfl rfl rfl KX G hmg (by rfl) (by first | rfl | decide +kernel) c⟩
