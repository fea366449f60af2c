import PyProof.Rows.All
import Wide.All
import OpenK.AllK
import Wide.FinOn
import HandS.Codes
import HandS.ForMost
import HandS.Wide
import HandS.Zip
import HandS.IsInst
import HandS.Defaults
import HandS.Style
import HandS.ForExc
import HandS.Walk
import HandS.More
import HandS.CallLocal
import HandS.FStr
import HandS.ExcField
import HandS.ExcIs
import KE.KExcSuper
import KE.KExcInit
import KE.KExcIs
import HandS.Lambda
import HandS.Small
import HandS.MakeKw
import HandS.DeepEq
import HandS.ExcValue
import KE.RegKSuper
import KE.RegKIsAll
import KE.RegKTryMore
import KE.KNestM
import HandS.EndTab
import KE.KStateDown
import HandS.Words
import HandS.WordsExc
import HandS.Head0
import HandS.Head1
import HandS.Head2
import HandS.HeadEnd
import HandS.HeadHook1
import HandS.HeadHook2
import HandS.HeadHook3
import HandS.HeadHook4
import PySem.Challenge.RW_echobound_k10_refusals_made
set_option Elab.async false
set_option linter.all false
set_option maxRecDepth 100000
set_option maxHeartbeats 4000000
namespace PySem
namespace ErrX
open PySem.W PySem.Calls PyProof.Rows PySem.HandSPX
abbrev bmA : List Value := [.type "ArithmeticError", .type "Exception", .type "BaseException", .type "object"]
/-- what the written part says of an error class under ArithmeticError -/
structure ErrC (K : Frag) (mg : Str → Option Value) (x : Str) (C : Addr) : Prop where
  gC : mg x = some (.ref C)
  ei : excInitIn K C bmA "ArithmeticError.__new__" = true
  eo : excOver K C bmA = true
  sa : findIn K (.ref C) "__setattr__" = some (some (.builtin "object.__setattr__"))
  ga : findIn K (.ref C) "__getattribute__" = some (some (.builtin "BaseException.__getattribute__"))
  gg : findIn K (.ref C) "__getattr__" = some none
  kC : keepIn K (.ref C) = true
  exC : subIn K (.ref C) (.type "BaseException") = some true
  tyC : typeIn K (.ref C) = some (.type "type")
  hdC : hasDictIn K C = true
/-- its __init__: super().__init__(f'..'), then one field of the same name as the parameter -/
structure IniC (prog : Program) (K : Frag) (mg : Str → Option Value) (C fI cc : Addr) (qual fld : Str) (st : Stmt) (dV : Value) : Prop where
  iC : findIn K (.ref C) "__init__" = some (some (.ref fI))
  tC : typeIn K (.ref fI) = some (.type "function")
  fn : ∃ (oc : Value) (od : Option Addr) (kV doc pm : Value) (an : Option Addr) (cda : Addr) (ct : Value) (osl : Array (Option Value)),
    K.lookup fI = some ⟨oc, od, .func (ksFn "__init__" qual (L2.defArgs st) (L2.defBody st) (L2.defScope st) dV kV doc pm an (.ref cda) ct cc), osl⟩ ∧ codeIn K (.ref cda) qual = true ∧
    ∃ (ccl : Value) (cdd : Option Addr) (vs : Array Value) (ccs : Array (Option Value)) (file : Str) (tf : Tok), K.lookup cda = some ⟨ccl, cdd, .fields vs, ccs⟩ ∧ vs[2]? = some (.str file tf) ∧ ((prog.main.file : Str) == file) = true
  cell : ∃ (cl : Value) (cld : Option Addr) (csl : Array (Option Value)), K.lookup cc = some ⟨cl, cld, .cell (some (.ref C)), csl⟩
  noF : findIn K (.ref C) fld = some none
  sup : ks_superIn K C C "__init__" = some (some (.builtin "ArithmeticError.__init__"))
  subA : subIn K (.ref C) (.type "ArithmeticError") = some true
  slf : mroIn K C (.ref C) = some true
  th : nsIn K cStatics "thirdparty.any" = some none
  msup : mg "super" = none
  top : (prog.main.scope.names.lookup ("super" : Str)).isSome = false
/-- the parts of the text -/
inductive FP (fld : Str) : Expr → Prop
  | c {x : Str} {j : Nat} {pos : Pos} (h : x.length ≤ 1000) : FP fld (.Constant (.str x) j pos)
  | f {p q : Pos} : FP fld (.FormattedValue (.Name fld p) (-1) none q)
/-- a value that is written as a text of at most a thousand signs -/
def FmtOk (v : Value) : Prop := (∃ y t, v = .str y t ∧ y.length ≤ 1000) ∨ ∃ i t, v = .int i t ∧ i.natAbs.log2 < 1920 ∧ (toString i : String).length ≤ 1000
section
variable {prog : Program} {w : World} {A : Around} {E : Value → Shared → Prop} {R : Result → Shared → Prop} {s : Shared} {K : Frag} {mg mb : Str → Option Value} {C fI cc : Addr} {qual fld : Str} {st : Stmt}
theorem joins_ok {env : Env} {m : Str → Option Value} {v : Value} (hk : env.scope.kind = .function) (hl : env.kindOf fld = some .local) (hd : (fld == ("__debug__" : Str)) = false) (hv : m fld = some v) (fv : FmtOk v) :
    ∀ (es : List Expr) (acc : Str) (s : Shared) (Q : Str → Shared → Prop), (∀ e ∈ es, FP fld e) → acc.length + 1000 * es.length ≤ 100000 → s.heap.Ns env.locals m →
      (∀ out tk, out.length ≤ 100000 → Q out { s with toks := tk }) → Joins (model prog w) A E (evalEach es env) acc Q s
  | [], acc, s, Q, _, hz, _, hq => by
    have e0 : evalEach [] env = [] := by first | rfl | simp [evalEach]
    rw [e0]
    have := hq acc s.toks (by simpa using hz)
    exact this
  | e :: es, acc, s, Q, hp, hz, hn, hq => by
    have e0 : evalEach (e :: es) env = eval e env :: evalEach es env := by first | rfl | simp [evalEach]
    rw [e0]
    have hp' : ∀ e ∈ es, FP fld e := fun e h => hp e (List.mem_cons_of_mem _ h)
    rw [List.length_cons] at hz
    have step : ∀ (y : Str) (t : Tok) (tk : Nat), y.length ≤ 1000 → ∃ y' t', Value.str y t = .str y' t' ∧ (acc ++ y').length ≤ sizeLine ∧ Joins (model prog w) A E (evalEach es env) (acc ++ y') Q { s with toks := tk } := fun y t tk hy => by
      have hlen : (acc ++ y).length = acc.length + y.length := by first | exact Str.length_append _ _ | simp
      refine ⟨y, t, rfl, ?_, ?_⟩
      · rw [hlen, sizeLine_eq]
        omega
      · exact joins_ok hk hl hd hv fv es (acc ++ y) { s with toks := tk } Q hp' (by rw [hlen]; omega) hn fun out tk' ho => hq out tk' ho
    show wpAny _ _ (eval e env) _ _ _
    cases hp e List.mem_cons_self with
    | c h => exact Calls.Constant_str (step _ _ _ h)
    | f =>
      refine wpAny_FormattedValue_plain (wpAny_Name (wpAny_loadName_local hk hl hn hv ?_) hd)
      rcases fv with ⟨y, t, rfl, hy⟩ | ⟨i, t, rfl, hi, hy⟩
      · exact wpAny_formatField_str (step y t s.toks hy) (step y _ _ hy) (by rw [sizeLine_eq]; omega)
      · exact wpAny_formatField_int hi (step _ _ _ (by rw [ofString_length]; exact hy))
end
end ErrX
end PySem

namespace PySem
namespace ErrX
open PySem.W PySem.Calls PyProof.Rows PySem.HandSPX
/-- a dict with one text for its key -/
theorem one_key {h : Heap} {dx : Addr} {fld : Str} {hs : Int} {tk : Tok} {v : Value} (e : h.get? dx = some (dictOf [⟨hs, .str fld tk, v⟩] 1)) : h.Ns1 dx (fun y => if y = fld then some v else none) := by
  refine ⟨_, _, _, e, rfl, fun d hd => ?_, List.pairwise_singleton _ _, fun y => ?_⟩
  · obtain rfl : d = ⟨hs, .str fld tk, v⟩ := by simpa using hd
    exact ⟨fld, tk, rfl⟩
  · by_cases z : y = fld
    · subst z
      simp [nsFind, findBy, Value.isStr]
    · simp [nsFind, findBy, Value.isStr, z, Ne.symm z]
/-- what __init__ leaves of a fresh error at x -/
structure IniEnd (h h' : Heap) (x C dx : Addr) (fld : Str) (v : Value) : Prop where
  keep : ∀ b o, b ≠ x → h.get? b = some o → h'.get? b = some o
  obj : ∃ t1 : Addr, h'.get? x = some { cls := .ref C, dict := some dx, data := .fields #[.ref t1, .none, .none, .none, .bool false, .none] }
  dbig : h.objs.size ≤ dx
  dne : dx ≠ x
  ns : h'.Ns1 dx (fun y => if y = fld then some v else none)
section
variable {prog : Program} {w : World} {A : Around} {E : Value → Shared → Prop} {R : Result → Shared → Prop} {s : Shared} {K : Frag} {mg : Str → Option Value} {C fI cc : Addr} {nm qual fld : Str} {st : Stmt}
abbrev iniScope (fld : Str) : Scope := { kind := .function, names := [(Str.ofString "self", .local), (fld, .local), (Str.ofString "__class__", .free), (Str.ofString "super", .globalImplicit)], isGenerator := false, isCoroutine := false, more := [] }
abbrev iniBody (fld : Str) (v1 v2 : Expr) (rest : List Expr) (p1 p2 p3 p4 p5 p6 q1 q2 q3 q4 : Pos) : List Stmt :=
  [.Expr (.Call (.Attribute (.Call (.Name "super" p1) [] [] p2) "__init__" p3) [.JoinedStr (v1 :: v2 :: rest) p4] [] p5) p6, .Assign [.Attribute (.Name "self" q1) fld q2] (.Name fld q3) q4]
/-- a field's name that is none of these -/
structure FldOk (fld : Str) : Prop where
  f1 : (fld == Str.ofString "self") = false
  f2 : (Str.ofString "__class__" == fld) = false
  f3 : (Str.ofString "super" == fld) = false
  f4 : (Str.ofString "self" == fld) = false
  f5 : (fld == Str.ofString "__debug__") = false
section
variable {fld : Str}
theorem lk_self : (iniScope fld).names.lookup (Str.ofString "self") = some .local := by
  rw [List.lookup_cons, beq_self_eq_true]
theorem lk_fld (O : FldOk fld) : (iniScope fld).names.lookup fld = some .local := by
  rw [List.lookup_cons, O.f1, List.lookup_cons, beq_self_eq_true]
theorem lk_cls (O : FldOk fld) : (iniScope fld).names.lookup (Str.ofString "__class__") = some .free := by
  rw [List.lookup_cons, show (Str.ofString "__class__" == Str.ofString "self") = false by decide +kernel, List.lookup_cons, O.f2, List.lookup_cons, beq_self_eq_true]
theorem lk_sup (O : FldOk fld) : (iniScope fld).names.lookup (Str.ofString "super") = some .globalImplicit := by
  rw [List.lookup_cons, show (Str.ofString "super" == Str.ofString "self") = false by decide +kernel, List.lookup_cons, O.f3, List.lookup_cons, show (Str.ofString "super" == Str.ofString "__class__") = false by decide +kernel, List.lookup_cons, beq_self_eq_true]
end
theorem err_init {s1 p1 p2 p3 p4 p5 p6 q1 q2 q3 q4 : Pos} {v1 v2 : Expr} {rest : List Expr} (EC : ErrC K mg nm C) {dV : Value} (IC : IniC prog K mg C fI cc qual fld st dV) (O : FldOk fld)
    (hbd : L2.defBody st = iniBody fld v1 v2 rest p1 p2 p3 p4 p5 p6 q1 q2 q3 q4)
    (hpar : ((L2.defArgs st).posonlyargs ++ (L2.defArgs st).args).head? = some { arg := "self", annotation := none, pos := s1 })
    (hps : ∀ e ∈ v1 :: v2 :: rest, FP fld e) (hlen : rest.length ≤ 20) (hpos : (p3.endLine == p5.line) = true) (hsc : L2.defScope st = iniScope fld)
    {x t0 : Addr} {v : Value} {ar : Args} (MO : L2.Mod K mg s.heap) (hx : s.heap.get? x = some (excO C t0)) (hnx : K.lookup x = none) (hroom : A.depth < recursionLimit) (fv : FmtOk v)
    (hbind : ∀ kV doc pm an cda ct, BindsTo s (ksFn "__init__" qual (L2.defArgs st) (L2.defBody st) (L2.defScope st) dV kV doc pm an (.ref cda) ct cc) ar [(Str.ofString "self", .ref x), (fld, v)])
    (hq : ∀ h' tk dx, IniEnd s.heap h' x C dx fld v → R (.ok (.ret .none)) { s with heap := h', toks := tk }) :
    codeAny (model prog w) A (.call (.ref fI) ar) R s := by
  obtain ⟨oc, od, kV, doc, pm, an, cda, ct, osl, ho, hcd, ccl, cdd, vs, ccs, file, tf, hcda, hvs, hfile⟩ := IC.fn
  have X := MO.kin
  have hb := hbind kV doc pm an cda ct
  rw [hbd, hsc] at ho hb
  obtain ⟨cl, cld, csl, hcell⟩ := IC.cell
  obtain ⟨mb, hmb, hmb2⟩ := MO.blt
  obtain ⟨nm', N', qn, bs, bm, hdct, sn, sub, ab, col, dd, k0, k1, k2, k3, k5, hC, hT⟩ := excInit_of X EC.ei
  obtain ⟨hp, g, d, t, os⟩ := s
  refine ks_codeAny_call_defAt (fd := ksFn "__init__" qual (L2.defArgs st) (iniBody fld v1 v2 rest p1 p2 p3 p4 p5 p6 q1 q2 q3 q4) (iniScope fld) dV kV doc pm an (.ref cda) ct cc) (body := iniBody fld v1 v2 rest p1 p2 p3 p4 p5 p6 q1 q2 q3 q4) (binds := [(Str.ofString "self", .ref x), (fld, v)])
    hroom (X _ _ ho) rfl MO.nolimit (codeRec_of X hcd) rfl hb ?_ ?_ (fun h₁ hns k => ?_)
  · intro y hy z
    have hy' : y ∈ (iniScope fld).names := hy
    simp only [List.mem_cons, List.not_mem_nil, or_false] at hy'
    rcases hy' with rfl | rfl | rfl | rfl <;> cases z
  · intro y hy
    simp only [List.mem_cons, List.not_mem_nil, or_false] at hy
    rcases hy with rfl | rfl
    · exact lk_self
    · exact lk_fld O
  · have X₁ : K.In h₁ := X.keeps k
    have hx₁ := k _ _ hx
    have hC₁ := k _ _ hC
    have mS : (fun y => [(Str.ofString "self", Value.ref x), (fld, v)].reverse.lookup y) (Str.ofString "self") = some (.ref x) := by
      show List.lookup (Str.ofString "self") [(fld, v), (Str.ofString "self", Value.ref x)] = _
      rw [List.lookup_cons, O.f4, List.lookup_cons, beq_self_eq_true]
    have mF : (fun y => [(Str.ofString "self", Value.ref x), (fld, v)].reverse.lookup y) fld = some v := by
      show List.lookup fld [(fld, v), (Str.ofString "self", Value.ref x)] = _
      rw [List.lookup_cons, beq_self_eq_true]
    refine ks_wpAt_execs_cons (ks_wpAt_Expr_any (ks_wpAt_MethodCall (pl := (do return (← importBound (.Call (.Name "super" p1) [] [] p2) (ksEnv qual (iniScope fld) hp.objs.size fI (.ref cda) cc)).getD true)) ?_ ?_))
    rotate_left
    · rw [arm_eval_Call]
      unfold methodCall
      have e2 : ∀ env : Env, methodCallPos (methodCallForm ([Expr.JoinedStr (v1 :: v2 :: rest) p4].length + ([] : List Keyword).length) (backTo p5 (starEach [Expr.JoinedStr (v1 :: v2 :: rest) p4] env)) (backToKw p5 (keywordEach [] env))) (.Call (.Name "super" p1) [] [] p2) env p3 p5 = pure p5 := fun env => by
        show (if (!true || p3.endLine == p5.line) = true then pure p5 else _) = _
        rw [hpos]
        rfl
      rw [e2]
      rfl
    refine ks_wpAt_super_base (f := fI) (cc := cda) (lk_sup O) (lk_cls O) (by decide +kernel) rfl (X₁ _ _ ho) rfl hpar rfl (X₁ _ _ hcda) rfl hvs hfile IC.top ?_
    refine ks_loadName_global rfl (lk_sup O) (loadGlobal_builtin (MO.glob.keeps k) IC.msup (hmb.keeps k) ((hmb2 "super" (by decide)).trans (show bootBuiltins "super" = some (.type "super") by decide +kernel)) ⟨rfl, ?_⟩)
    refine wpAny_loadName_free rfl (lk_cls O) rfl ⟨_, X₁ _ _ hcell, rfl⟩ ?_
    refine wpAny_loadName_local rfl lk_self hns mS ?_
    refine ks_wpAny_isType_cls hC₁ rfl ⟨rfl, ?_⟩
    refine ks_wpAny_call_super hC₁ rfl hx₁ rfl (fun c z => by cases z) (looks_mroIn X₁ IC.slf) (fun h₂ hso k₂ => ?_)
    have X₂ : K.In h₂ := X₁.keeps k₂
    have hx₂ := k₂ _ _ hx₁
    have I₂ : W.InstAt h₂ x (excO C t0) C none := ⟨hx₂, rfl, rfl, trivial⟩
    have hsup := IC.sup
    unfold ks_superIn at hsup
    cases hc : clsIn K C with
    | none =>
      rw [hc] at hsup
      cases hsup
    | some cd =>
    rw [hc] at hsup
    refine kxs_getMethod kxs_ArithmeticError hso (looks_opaque X₂ IC.th) (l₀ := cd.mro) (fun A Q E s k q => wpAny_bind ((looks_clsIn X₂ hc) A _ E s k (wpAny_pure q))) rfl X₂ hsup (I₂.type.andThen (looks_subIn X₂ IC.subA)) (ks_ne X₂ I₂ hc) (by decide +kernel) ?_
    have k₃ : ∀ b o, h₂.get? b = some o → (h₂.push (kxs_mw "ArithmeticError.__init__" x)).get? b = some o := fun b o e => Heap.get?_push_of_some _ e
    have hu : (h₂.push (kxs_mw "ArithmeticError.__init__" x)).get? h₂.objs.size = some (kxs_mw "ArithmeticError.__init__" x) := Heap.get?_push_at rfl rfl
    have kk : ∀ b o, hp.get? b = some o → (h₂.push (kxs_mw "ArithmeticError.__init__" x)).get? b = some o := fun b o e => k₃ _ _ (k₂ _ _ (k _ _ e))
    have hns₃ : (h₂.push (kxs_mw "ArithmeticError.__init__" x)).Ns hp.objs.size (fun y => [(Str.ofString "self", Value.ref x), (fld, v)].reverse.lookup y) := by
      obtain ⟨oL, es, ep, hL, r⟩ := hns
      exact ⟨oL, es, ep, k₃ _ _ (k₂ _ _ hL), r⟩
    have hx₃ := k₃ _ _ hx₂
    have hC₃ := kk _ _ hC
    have hsz : h₂.objs.size < (h₂.push (kxs_mw "ArithmeticError.__init__" x)).objs.size := Heap.lt_size hu
    generalize h₂.push (kxs_mw "ArithmeticError.__init__" x) = h₃ at *
    refine kxs_callWith (i := "ArithmeticError.__init__") (x := x) rfl (evalArgs_plain ?_)
    refine Calls.spliced_cons (wpAny_JoinedStr (pos := p4) (joins_ok (env := callEnv (ksFn "__init__" qual (L2.defArgs st) (iniBody fld v1 v2 rest p1 p2 p3 p4 p5 p6 q1 q2 q3 q4) (iniScope fld) dV kV doc pm an (.ref cda) ct cc) hp.objs.size fI) rfl (lk_fld O) O.f5 mF fv _ Str.empty _ _ hps ?_ hns₃ fun out tk ho => ⟨by rw [sizeLine_eq]; omega, ?_⟩))
    · rw [List.length_cons, List.length_cons]
      show 0 + 1000 * (rest.length + 1 + 1) ≤ 100000
      omega
    refine Calls.spliced_nil ⟨hu, ?_⟩
    -- the library's own rules, over the heap of the call with the error itself left out
    have xL : x ≠ hp.objs.size := Nat.ne_of_lt (Heap.lt_size hx)
    have nK : ∀ a o, K.lookup a = some o → a ∉ [x] := fun a o e z => by
      rw [List.mem_singleton.mp z, hnx] at e
      cases e
    have X₀ : K.In (hideAll hp [x]) := fun a o e => hideAll_get [x] (X a o e) (nK a o e)
    have F₃ : Fr (hideAll hp [x]) hp.objs.size h₃ (fun y => [(Str.ofString "self", Value.ref x), (fld, v)].reverse.lookup y) :=
      ⟨hns₃, fun b o e => kk b o (of_hideAll [x] e), Nat.le_of_eq (hideAll_size [x] hp)⟩
    have L₂ : hp.objs.size < h₂.objs.size := by
      obtain ⟨oL, es, ep, hL, _⟩ := hns
      exact Heap.lt_size (k₂ _ _ hL)
    have ux : h₂.objs.size ≠ x := Nat.ne_of_gt (Nat.lt_trans (Heap.lt_size hx) L₂)
    have uo : (hideAll hp [x]).get? h₂.objs.size = none := by
      cases e : (hideAll hp [x]).get? h₂.objs.size with
      | none => rfl
      | some o => exact absurd (Nat.lt_trans (Heap.lt_size (of_hideAll [x] e)) L₂) (Nat.lt_irrefl _)
    have N₃ : News (hideAll hp [x]) hp.objs.size h₃ [(h₂.objs.size, kxs_mw "ArithmeticError.__init__" x), (x, excObj C t0 none .none)] := fun p hp' => by
      rcases List.mem_cons.mp hp' with rfl | hp'
      · exact ⟨hu, Nat.ne_of_gt L₂, uo⟩
      · obtain rfl := List.mem_singleton.mp hp'
        exact ⟨hx₃, xL, hideAll_none [x] (List.mem_singleton.mpr rfl)⟩
    refine kxs_call F₃ X₀ N₃ F.excBase_ArithmeticError EC.ei List.mem_cons_self (.tail ux (.head fun p z => nomatch z)) (by show 1 ≤ sizeLine; decide) fun t1 h₄ F₄ N₄ lt₄ => ?_
    have X₄ : K.In h₄ := X₀.keeps F₄.keep
    have hx₄ : h₄.get? x = some (excO C t1) := (N₄ (x, excObj C t1 none .none) (by simp)).1
    have tx : t1 ≠ x := Nat.ne_of_gt (lt₄ (x, excObj C t0 none .none) (by simp))
    refine ks_wpAt_execs_cons (ks_wpAt_Assign_Attr (wpAt_of_wpAny (wpAny_Name (wpAny_loadName_local rfl (lk_fld O) F₄.ns mF ?_) O.f5)))
    refine wpAny_Name (wpAny_loadName_local rfl lk_self F₄.ns mS ?_) (by decide +kernel)
    refine set_plain X₄ (ox := excO C t1) (od := none) ⟨hx₄, rfl, rfl, trivial⟩ EC.sa ?_
    have free : takerIn K C fld = some none := by
      rw [takerIn, IC.noF]
      rfl
    refine osa_exc0 (pre := [(t1, _), (h₂.objs.size, _)]) (post := []) F.store_ArithmeticError F₄ N₄ X₄ EC.eo free EC.hdC (fun p z => ?_) (fun p z => nomatch z) (putName_dict _ _ _ _ _ _) rfl (by show 1 ≤ 1000; decide) fun dx h₅ F₅ N₅ lt₅ => ?_
    · rcases List.mem_cons.mp z with rfl | z
      · exact tx
      · obtain rfl := List.mem_singleton.mp z
        exact ux
    refine wpAt_of_wpAny (wpAny_execs_nil ?_)
    have xd : x < dx := lt₅ (x, excObj C t1 none .none) (by simp)
    have ud : h₂.objs.size < dx := lt₅ (h₂.objs.size, kxs_mw "ArithmeticError.__init__" x) (by simp)
    exact hq h₅ _ dx ⟨fun b o hb e => F₅.keep b o (hideAll_get [x] e fun z => hb (List.mem_singleton.mp z)), ⟨t1, (N₅ (x, excObj C t1 (some dx) .none) (by simp)).1⟩, Nat.le_of_lt (Nat.lt_trans L₂ ud), Nat.ne_of_gt xd, one_key (N₅ _ List.mem_cons_self).1⟩
end
end ErrX
end PySem
namespace PySem
namespace ErrX
open PySem.W PySem.Calls PyProof.Rows PySem.HandSPX
section
variable {prog : Program} {w : World} {A : Around} {E : Value → Shared → Prop} {R : Result → Shared → Prop} {s : Shared} {K : Frag} {mg : Str → Option Value} {C fI cc : Addr} {nm qual fld : Str} {st : Stmt}
abbrev iniBodyC (fld m : Str) (j4 : Nat) (p1 p2 p3 p4 p5 p6 q1 q2 q3 q4 : Pos) : List Stmt :=
  [.Expr (.Call (.Attribute (.Call (.Name "super" p1) [] [] p2) "__init__" p3) [.Constant (.str m) j4 p4] [] p5) p6, .Assign [.Attribute (.Name "self" q1) fld q2] (.Name fld q3) q4]
theorem err_initC {s1 p1 p2 p3 p4 p5 p6 q1 q2 q3 q4 : Pos} {m : Str} {j4 : Nat} (EC : ErrC K mg nm C) {dV : Value} (IC : IniC prog K mg C fI cc qual fld st dV) (O : FldOk fld)
    (hbd : L2.defBody st = iniBodyC fld m j4 p1 p2 p3 p4 p5 p6 q1 q2 q3 q4)
    (hpar : ((L2.defArgs st).posonlyargs ++ (L2.defArgs st).args).head? = some { arg := "self", annotation := none, pos := s1 })
    (hpos : (p3.endLine == p5.line) = true) (hsc : L2.defScope st = iniScope fld)
    {x t0 : Addr} {v : Value} {ar : Args} (MO : L2.Mod K mg s.heap) (hx : s.heap.get? x = some (excO C t0)) (hnx : K.lookup x = none) (hroom : A.depth < recursionLimit)
    (hbind : ∀ kV doc pm an cda ct, BindsTo s (ksFn "__init__" qual (L2.defArgs st) (L2.defBody st) (L2.defScope st) dV kV doc pm an (.ref cda) ct cc) ar [(Str.ofString "self", .ref x), (fld, v)])
    (hq : ∀ h' tk dx, IniEnd s.heap h' x C dx fld v → R (.ok (.ret .none)) { s with heap := h', toks := tk }) :
    codeAny (model prog w) A (.call (.ref fI) ar) R s := by
  obtain ⟨oc, od, kV, doc, pm, an, cda, ct, osl, ho, hcd, ccl, cdd, vs, ccs, file, tf, hcda, hvs, hfile⟩ := IC.fn
  have X := MO.kin
  have hb := hbind kV doc pm an cda ct
  rw [hbd, hsc] at ho hb
  obtain ⟨cl, cld, csl, hcell⟩ := IC.cell
  obtain ⟨mb, hmb, hmb2⟩ := MO.blt
  obtain ⟨nm', N', qn, bs, bm, hdct, sn, sub, ab, col, dd, k0, k1, k2, k3, k5, hC, hT⟩ := excInit_of X EC.ei
  obtain ⟨hp, g, d, t, os⟩ := s
  refine ks_codeAny_call_defAt (fd := ksFn "__init__" qual (L2.defArgs st) (iniBodyC fld m j4 p1 p2 p3 p4 p5 p6 q1 q2 q3 q4) (iniScope fld) dV kV doc pm an (.ref cda) ct cc) (body := iniBodyC fld m j4 p1 p2 p3 p4 p5 p6 q1 q2 q3 q4) (binds := [(Str.ofString "self", .ref x), (fld, v)])
    hroom (X _ _ ho) rfl MO.nolimit (codeRec_of X hcd) rfl hb ?_ ?_ (fun h₁ hns k => ?_)
  · intro y hy z
    have hy' : y ∈ (iniScope fld).names := hy
    simp only [List.mem_cons, List.not_mem_nil, or_false] at hy'
    rcases hy' with rfl | rfl | rfl | rfl <;> cases z
  · intro y hy
    simp only [List.mem_cons, List.not_mem_nil, or_false] at hy
    rcases hy with rfl | rfl
    · exact lk_self
    · exact lk_fld O
  · have X₁ : K.In h₁ := X.keeps k
    have hx₁ := k _ _ hx
    have hC₁ := k _ _ hC
    have mS : (fun y => [(Str.ofString "self", Value.ref x), (fld, v)].reverse.lookup y) (Str.ofString "self") = some (.ref x) := by
      show List.lookup (Str.ofString "self") [(fld, v), (Str.ofString "self", Value.ref x)] = _
      rw [List.lookup_cons, O.f4, List.lookup_cons, beq_self_eq_true]
    have mF : (fun y => [(Str.ofString "self", Value.ref x), (fld, v)].reverse.lookup y) fld = some v := by
      show List.lookup fld [(fld, v), (Str.ofString "self", Value.ref x)] = _
      rw [List.lookup_cons, beq_self_eq_true]
    refine ks_wpAt_execs_cons (ks_wpAt_Expr_any (ks_wpAt_MethodCall (pl := (do return (← importBound (.Call (.Name "super" p1) [] [] p2) (ksEnv qual (iniScope fld) hp.objs.size fI (.ref cda) cc)).getD true)) ?_ ?_))
    rotate_left
    · rw [arm_eval_Call]
      unfold methodCall
      have e2 : ∀ env : Env, methodCallPos (methodCallForm ([Expr.Constant (.str m) j4 p4].length + ([] : List Keyword).length) (backTo p5 (starEach [Expr.Constant (.str m) j4 p4] env)) (backToKw p5 (keywordEach [] env))) (.Call (.Name "super" p1) [] [] p2) env p3 p5 = pure p5 := fun env => by
        show (if (!true || p3.endLine == p5.line) = true then pure p5 else _) = _
        rw [hpos]
        rfl
      rw [e2]
      rfl
    refine ks_wpAt_super_base (f := fI) (cc := cda) (lk_sup O) (lk_cls O) (by decide +kernel) rfl (X₁ _ _ ho) rfl hpar rfl (X₁ _ _ hcda) rfl hvs hfile IC.top ?_
    refine ks_loadName_global rfl (lk_sup O) (loadGlobal_builtin (MO.glob.keeps k) IC.msup (hmb.keeps k) ((hmb2 "super" (by decide)).trans (show bootBuiltins "super" = some (.type "super") by decide +kernel)) ⟨rfl, ?_⟩)
    refine wpAny_loadName_free rfl (lk_cls O) rfl ⟨_, X₁ _ _ hcell, rfl⟩ ?_
    refine wpAny_loadName_local rfl lk_self hns mS ?_
    refine ks_wpAny_isType_cls hC₁ rfl ⟨rfl, ?_⟩
    refine ks_wpAny_call_super hC₁ rfl hx₁ rfl (fun c z => by cases z) (looks_mroIn X₁ IC.slf) (fun h₂ hso k₂ => ?_)
    have X₂ : K.In h₂ := X₁.keeps k₂
    have hx₂ := k₂ _ _ hx₁
    have I₂ : W.InstAt h₂ x (excO C t0) C none := ⟨hx₂, rfl, rfl, trivial⟩
    have hsup := IC.sup
    unfold ks_superIn at hsup
    cases hc : clsIn K C with
    | none =>
      rw [hc] at hsup
      cases hsup
    | some cd =>
    rw [hc] at hsup
    refine kxs_getMethod kxs_ArithmeticError hso (looks_opaque X₂ IC.th) (l₀ := cd.mro) (fun A Q E s k q => wpAny_bind ((looks_clsIn X₂ hc) A _ E s k (wpAny_pure q))) rfl X₂ hsup (I₂.type.andThen (looks_subIn X₂ IC.subA)) (ks_ne X₂ I₂ hc) (by decide +kernel) ?_
    have k₃ : ∀ b o, h₂.get? b = some o → (h₂.push (kxs_mw "ArithmeticError.__init__" x)).get? b = some o := fun b o e => Heap.get?_push_of_some _ e
    have hu : (h₂.push (kxs_mw "ArithmeticError.__init__" x)).get? h₂.objs.size = some (kxs_mw "ArithmeticError.__init__" x) := Heap.get?_push_at rfl rfl
    have kk : ∀ b o, hp.get? b = some o → (h₂.push (kxs_mw "ArithmeticError.__init__" x)).get? b = some o := fun b o e => k₃ _ _ (k₂ _ _ (k _ _ e))
    have hns₃ : (h₂.push (kxs_mw "ArithmeticError.__init__" x)).Ns hp.objs.size (fun y => [(Str.ofString "self", Value.ref x), (fld, v)].reverse.lookup y) := by
      obtain ⟨oL, es, ep, hL, r⟩ := hns
      exact ⟨oL, es, ep, k₃ _ _ (k₂ _ _ hL), r⟩
    have hx₃ := k₃ _ _ hx₂
    have hC₃ := kk _ _ hC
    have hsz : h₂.objs.size < (h₂.push (kxs_mw "ArithmeticError.__init__" x)).objs.size := Heap.lt_size hu
    generalize h₂.push (kxs_mw "ArithmeticError.__init__" x) = h₃ at *
    refine kxs_callWith (i := "ArithmeticError.__init__") (x := x) rfl (evalArgs_plain ?_)
    refine Calls.spliced_cons (Calls.Constant_str (k := j4) (pos := p4) ?_)
    refine Calls.spliced_nil ⟨hu, ?_⟩
    -- the library's own rules, over the heap of the call with the error itself left out
    have xL : x ≠ hp.objs.size := Nat.ne_of_lt (Heap.lt_size hx)
    have nK : ∀ a o, K.lookup a = some o → a ∉ [x] := fun a o e z => by
      rw [List.mem_singleton.mp z, hnx] at e
      cases e
    have X₀ : K.In (hideAll hp [x]) := fun a o e => hideAll_get [x] (X a o e) (nK a o e)
    have F₃ : Fr (hideAll hp [x]) hp.objs.size h₃ (fun y => [(Str.ofString "self", Value.ref x), (fld, v)].reverse.lookup y) :=
      ⟨hns₃, fun b o e => kk b o (of_hideAll [x] e), Nat.le_of_eq (hideAll_size [x] hp)⟩
    have L₂ : hp.objs.size < h₂.objs.size := by
      obtain ⟨oL, es, ep, hL, _⟩ := hns
      exact Heap.lt_size (k₂ _ _ hL)
    have ux : h₂.objs.size ≠ x := Nat.ne_of_gt (Nat.lt_trans (Heap.lt_size hx) L₂)
    have uo : (hideAll hp [x]).get? h₂.objs.size = none := by
      cases e : (hideAll hp [x]).get? h₂.objs.size with
      | none => rfl
      | some o => exact absurd (Nat.lt_trans (Heap.lt_size (of_hideAll [x] e)) L₂) (Nat.lt_irrefl _)
    have N₃ : News (hideAll hp [x]) hp.objs.size h₃ [(h₂.objs.size, kxs_mw "ArithmeticError.__init__" x), (x, excObj C t0 none .none)] := fun p hp' => by
      rcases List.mem_cons.mp hp' with rfl | hp'
      · exact ⟨hu, Nat.ne_of_gt L₂, uo⟩
      · obtain rfl := List.mem_singleton.mp hp'
        exact ⟨hx₃, xL, hideAll_none [x] (List.mem_singleton.mpr rfl)⟩
    refine kxs_call F₃ X₀ N₃ F.excBase_ArithmeticError EC.ei List.mem_cons_self (.tail ux (.head fun p z => nomatch z)) (by show 1 ≤ sizeLine; decide) fun t1 h₄ F₄ N₄ lt₄ => ?_
    have X₄ : K.In h₄ := X₀.keeps F₄.keep
    have hx₄ : h₄.get? x = some (excO C t1) := (N₄ (x, excObj C t1 none .none) (by simp)).1
    have tx : t1 ≠ x := Nat.ne_of_gt (lt₄ (x, excObj C t0 none .none) (by simp))
    refine ks_wpAt_execs_cons (ks_wpAt_Assign_Attr (wpAt_of_wpAny (wpAny_Name (wpAny_loadName_local rfl (lk_fld O) F₄.ns mF ?_) O.f5)))
    refine wpAny_Name (wpAny_loadName_local rfl lk_self F₄.ns mS ?_) (by decide +kernel)
    refine set_plain X₄ (ox := excO C t1) (od := none) ⟨hx₄, rfl, rfl, trivial⟩ EC.sa ?_
    have free : takerIn K C fld = some none := by
      rw [takerIn, IC.noF]
      rfl
    refine osa_exc0 (pre := [(t1, _), (h₂.objs.size, _)]) (post := []) F.store_ArithmeticError F₄ N₄ X₄ EC.eo free EC.hdC (fun p z => ?_) (fun p z => nomatch z) (putName_dict _ _ _ _ _ _) rfl (by show 1 ≤ 1000; decide) fun dx h₅ F₅ N₅ lt₅ => ?_
    · rcases List.mem_cons.mp z with rfl | z
      · exact tx
      · obtain rfl := List.mem_singleton.mp z
        exact ux
    refine wpAt_of_wpAny (wpAny_execs_nil ?_)
    have xd : x < dx := lt₅ (x, excObj C t1 none .none) (by simp)
    have ud : h₂.objs.size < dx := lt₅ (h₂.objs.size, kxs_mw "ArithmeticError.__init__" x) (by simp)
    exact hq h₅ _ dx ⟨fun b o hb e => F₅.keep b o (hideAll_get [x] e fun z => hb (List.mem_singleton.mp z)), ⟨t1, (N₅ (x, excObj C t1 (some dx) .none) (by simp)).1⟩, Nat.le_of_lt (Nat.lt_trans L₂ ud), Nat.ne_of_gt xd, one_key (N₅ _ List.mem_cons_self).1⟩
end
end ErrX
end PySem

namespace PySem
namespace ErrX
open PySem.W PySem.Calls PyProof.Rows PySem.HandSPX
/-- a value that is written as a text, None too -/
def FmtN (v : Value) : Prop := FmtOk v ∨ v = .none
inductive FP2 : Expr → Prop
  | c {x : Str} {j : Nat} {pos : Pos} (h : x.length ≤ 1000) : FP2 (.Constant (.str x) j pos)
  | p {p q : Pos} : FP2 (.FormattedValue (.Name "part" p) (-1) none q)
  | a {p q : Pos} : FP2 (.FormattedValue (.Name "at" p) (-1) none q)
abbrev kP : Str := Str.ofString "part"
abbrev kA : Str := Str.ofString "at"
section
variable {prog : Program} {w : World} {A : Around} {E : Value → Shared → Prop} {R : Result → Shared → Prop} {s : Shared} {K : Frag} {mg mb : Str → Option Value} {C fI cc : Addr} {qual : Str} {st : Stmt}
theorem joins2 {env : Env} {m : Str → Option Value} {v u : Value} (hk : env.scope.kind = .function) (hl : env.kindOf kP = some .local) (hl2 : env.kindOf kA = some .local) (hv : m kP = some v) (hu : m kA = some u) (fv : FmtN v) (fu : FmtN u) :
    ∀ (es : List Expr) (acc : Str) (s : Shared) (Q : Str → Shared → Prop), (∀ e ∈ es, FP2 e) → acc.length + 1000 * es.length ≤ 100000 → s.heap.Ns env.locals m →
      (∀ out tk, out.length ≤ 100000 → Q out { s with toks := tk }) → Joins (model prog w) A E (evalEach es env) acc Q s
  | [], acc, s, Q, _, hz, _, hq => by
    have e0 : evalEach [] env = [] := by first | rfl | simp [evalEach]
    rw [e0]
    have := hq acc s.toks (by simpa using hz)
    exact this
  | e :: es, acc, s, Q, hp, hz, hn, hq => by
    have e0 : evalEach (e :: es) env = eval e env :: evalEach es env := by first | rfl | simp [evalEach]
    rw [e0]
    have hp' : ∀ e ∈ es, FP2 e := fun e h => hp e (List.mem_cons_of_mem _ h)
    rw [List.length_cons] at hz
    have step : ∀ (y : Str) (t : Tok) (tk : Nat), y.length ≤ 1000 → ∃ y' t', Value.str y t = .str y' t' ∧ (acc ++ y').length ≤ sizeLine ∧ Joins (model prog w) A E (evalEach es env) (acc ++ y') Q { s with toks := tk } := fun y t tk hy => by
      have hlen : (acc ++ y).length = acc.length + y.length := by first | exact Str.length_append _ _ | simp
      refine ⟨y, t, rfl, ?_, ?_⟩
      · rw [hlen, sizeLine_eq]
        omega
      · exact joins2 hk hl hl2 hv hu fv fu es (acc ++ y) { s with toks := tk } Q hp' (by rw [hlen]; omega) hn fun out tk' ho => hq out tk' ho
    have one : ∀ v : Value, FmtN v → wpAny (model prog w) A (formatField v Str.empty) (fun r s' => ∃ y' t', r = .str y' t' ∧ (acc ++ y').length ≤ sizeLine ∧ Joins (model prog w) A E (evalEach es env) (acc ++ y') Q s') E s := fun v fv => by
      rcases fv with (⟨y, t, rfl, hy⟩ | ⟨i, t, rfl, hi, hy⟩) | rfl
      · exact wpAny_formatField_str (step y t s.toks hy) (step y _ _ hy) (by rw [sizeLine_eq]; omega)
      · exact wpAny_formatField_int hi (step _ _ _ (by rw [ofString_length]; exact hy))
      · exact wpAny_formatField_none (step _ _ _ (by decide +kernel))
    show wpAny _ _ (eval e env) _ _ _
    cases hp e List.mem_cons_self with
    | c h => exact Calls.Constant_str (step _ _ _ h)
    | p => exact wpAny_FormattedValue_plain (wpAny_Name (wpAny_loadName_local hk hl hn hv (one v fv)) (by decide +kernel))
    | a => exact wpAny_FormattedValue_plain (wpAny_Name (wpAny_loadName_local hk hl2 hn hu (one u fu)) (by decide +kernel))
theorem two_keys {h : Heap} {dx : Addr} {h1 h2 : Int} {t1 t2 : Tok} {v u : Value} (e : h.get? dx = some (dictOf [⟨h1, .str kP t1, v⟩, ⟨h2, .str kA t2, u⟩] 2)) : h.Ns1 dx (fun y => if y = kP then some v else if y = kA then some u else none) := by
  have ne : kP ≠ kA := by decide +kernel
  refine ⟨_, _, _, e, rfl, fun d hd => ?_, ?_, fun y => ?_⟩
  · have hd2 : d = ⟨h1, .str kP t1, v⟩ ∨ d = ⟨h2, .str kA t2, u⟩ := by simpa using hd
    rcases hd2 with rfl | rfl
    · exact ⟨kP, t1, rfl⟩
    · exact ⟨kA, t2, rfl⟩
  · refine List.pairwise_cons.mpr ⟨fun x hx => ?_, List.pairwise_singleton _ _⟩
    obtain rfl := List.mem_singleton.mp hx
    intro n a b
    replace a : (kP == n) = true := a
    replace b : (kA == n) = true := b
    exact ne ((eq_of_beq a).trans (eq_of_beq b).symm)
  · by_cases z : y = kP
    · subst z
      simp [nsFind, findBy, Value.isStr]
    · by_cases z2 : y = kA
      · subst z2
        simp [nsFind, findBy, Value.isStr, ne, Ne.symm ne]
      · simp [nsFind, findBy, Value.isStr, z, z2, Ne.symm z, Ne.symm z2]
structure IniEnd2 (h h' : Heap) (x C dx : Addr) (v u : Value) : Prop where
  keep : ∀ b o, b ≠ x → h.get? b = some o → h'.get? b = some o
  obj : ∃ t1 : Addr, h'.get? x = some { cls := .ref C, dict := some dx, data := .fields #[.ref t1, .none, .none, .none, .bool false, .none] }
  dbig : h.objs.size ≤ dx
  dne : dx ≠ x
  ns : h'.Ns1 dx (fun y => if y = kP then some v else if y = kA then some u else none)
abbrev iniScope2 : Scope := { kind := .function, names := [(Str.ofString "self", .local), (kP, .local), (kA, .local), (Str.ofString "__class__", .free), (Str.ofString "super", .globalImplicit)], isGenerator := false, isCoroutine := false, more := [] }
abbrev iniBody2 (v1 v2 : Expr) (rest : List Expr) (p1 p2 p3 p4 p5 p6 q1 q2 q3 q4 r1 r2 r3 r4 : Pos) : List Stmt :=
  [.Expr (.Call (.Attribute (.Call (.Name "super" p1) [] [] p2) "__init__" p3) [.JoinedStr (v1 :: v2 :: rest) p4] [] p5) p6, .Assign [.Attribute (.Name "self" q1) kP q2] (.Name kP q3) q4, .Assign [.Attribute (.Name "self" r1) kA r2] (.Name kA r3) r4]
theorem l2_self : iniScope2.names.lookup (Str.ofString "self") = some .local := by decide +kernel
theorem l2_p : iniScope2.names.lookup kP = some .local := by decide +kernel
theorem l2_a : iniScope2.names.lookup kA = some .local := by decide +kernel
theorem l2_cls : iniScope2.names.lookup (Str.ofString "__class__") = some .free := by decide +kernel
theorem l2_sup : iniScope2.names.lookup (Str.ofString "super") = some .globalImplicit := by decide +kernel
theorem err_init2 {nm : Str} {s1 p1 p2 p3 p4 p5 p6 q1 q2 q3 q4 r1 r2 r3 r4 : Pos} {v1 v2 : Expr} {rest : List Expr} (EC : ErrC K mg nm C) {dV : Value} (IC : IniC prog K mg C fI cc qual kP st dV) (noA : findIn K (.ref C) kA = some none)
    (hbd : L2.defBody st = iniBody2 v1 v2 rest p1 p2 p3 p4 p5 p6 q1 q2 q3 q4 r1 r2 r3 r4)
    (hpar : ((L2.defArgs st).posonlyargs ++ (L2.defArgs st).args).head? = some { arg := "self", annotation := none, pos := s1 })
    (hps : ∀ e ∈ v1 :: v2 :: rest, FP2 e) (hlen : rest.length ≤ 20) (hpos : (p3.endLine == p5.line) = true) (hsc : L2.defScope st = iniScope2)
    {x t0 : Addr} {v u : Value} {ar : Args} (MO : L2.Mod K mg s.heap) (hx : s.heap.get? x = some (excO C t0)) (hnx : K.lookup x = none) (hroom : A.depth < recursionLimit) (fv : FmtN v) (fu : FmtN u)
    (hbind : ∀ kV doc pm an cda ct, BindsTo s (ksFn "__init__" qual (L2.defArgs st) (L2.defBody st) (L2.defScope st) dV kV doc pm an (.ref cda) ct cc) ar [(Str.ofString "self", .ref x), (kP, v), (kA, u)])
    (hq : ∀ h' tk dx, IniEnd2 s.heap h' x C dx v u → R (.ok (.ret .none)) { s with heap := h', toks := tk }) :
    codeAny (model prog w) A (.call (.ref fI) ar) R s := by
  obtain ⟨oc, od, kV, doc, pm, an, cda, ct, osl, ho, hcd, ccl, cdd, vs, ccs, file, tf, hcda, hvs, hfile⟩ := IC.fn
  have X := MO.kin
  have hb := hbind kV doc pm an cda ct
  rw [hbd, hsc] at ho hb
  obtain ⟨cl, cld, csl, hcell⟩ := IC.cell
  obtain ⟨mb, hmb, hmb2⟩ := MO.blt
  obtain ⟨nm', N', qn, bs, bm, hdct, sn, sub, ab, col, dd, k0, k1, k2, k3, k5, hC, hT⟩ := excInit_of X EC.ei
  obtain ⟨hp, g, d, t, os⟩ := s
  refine ks_codeAny_call_defAt (fd := ksFn "__init__" qual (L2.defArgs st) (iniBody2 v1 v2 rest p1 p2 p3 p4 p5 p6 q1 q2 q3 q4 r1 r2 r3 r4) (iniScope2) dV kV doc pm an (.ref cda) ct cc) (body := iniBody2 v1 v2 rest p1 p2 p3 p4 p5 p6 q1 q2 q3 q4 r1 r2 r3 r4) (binds := [(Str.ofString "self", .ref x), (kP, v), (kA, u)])
    hroom (X _ _ ho) rfl MO.nolimit (codeRec_of X hcd) rfl hb ?_ ?_ (fun h₁ hns k => ?_)
  · intro y hy z
    have hy' : y ∈ (iniScope2).names := hy
    simp only [List.mem_cons, List.not_mem_nil, or_false] at hy'
    rcases hy' with rfl | rfl | rfl | rfl | rfl <;> cases z
  · intro y hy
    simp only [List.mem_cons, List.not_mem_nil, or_false] at hy
    rcases hy with rfl | rfl | rfl
    · exact l2_self
    · exact l2_p
    · exact l2_a
  · have X₁ : K.In h₁ := X.keeps k
    have hx₁ := k _ _ hx
    have hC₁ := k _ _ hC
    have mS : (fun y => [(Str.ofString "self", Value.ref x), (kP, v), (kA, u)].reverse.lookup y) (Str.ofString "self") = some (.ref x) := by
      show List.lookup (Str.ofString "self") [(kA, u), (kP, v), (Str.ofString "self", Value.ref x)] = _
      rw [List.lookup_cons, show (Str.ofString "self" == kA) = false by decide +kernel, List.lookup_cons, show (Str.ofString "self" == kP) = false by decide +kernel, List.lookup_cons, beq_self_eq_true]
    have mF : (fun y => [(Str.ofString "self", Value.ref x), (kP, v), (kA, u)].reverse.lookup y) kP = some v := by
      show List.lookup kP [(kA, u), (kP, v), (Str.ofString "self", Value.ref x)] = _
      rw [List.lookup_cons, show (kP == kA) = false by decide +kernel, List.lookup_cons, beq_self_eq_true]
    have mA : (fun y => [(Str.ofString "self", Value.ref x), (kP, v), (kA, u)].reverse.lookup y) kA = some u := by
      show List.lookup kA [(kA, u), (kP, v), (Str.ofString "self", Value.ref x)] = _
      rw [List.lookup_cons, beq_self_eq_true]
    refine ks_wpAt_execs_cons (ks_wpAt_Expr_any (ks_wpAt_MethodCall (pl := (do return (← importBound (.Call (.Name "super" p1) [] [] p2) (ksEnv qual (iniScope2) hp.objs.size fI (.ref cda) cc)).getD true)) ?_ ?_))
    rotate_left
    · rw [arm_eval_Call]
      unfold methodCall
      have e2 : ∀ env : Env, methodCallPos (methodCallForm ([Expr.JoinedStr (v1 :: v2 :: rest) p4].length + ([] : List Keyword).length) (backTo p5 (starEach [Expr.JoinedStr (v1 :: v2 :: rest) p4] env)) (backToKw p5 (keywordEach [] env))) (.Call (.Name "super" p1) [] [] p2) env p3 p5 = pure p5 := fun env => by
        show (if (!true || p3.endLine == p5.line) = true then pure p5 else _) = _
        rw [hpos]
        rfl
      rw [e2]
      rfl
    refine ks_wpAt_super_base (f := fI) (cc := cda) (l2_sup) (l2_cls) (by decide +kernel) rfl (X₁ _ _ ho) rfl hpar rfl (X₁ _ _ hcda) rfl hvs hfile IC.top ?_
    refine ks_loadName_global rfl (l2_sup) (loadGlobal_builtin (MO.glob.keeps k) IC.msup (hmb.keeps k) ((hmb2 "super" (by decide)).trans (show bootBuiltins "super" = some (.type "super") by decide +kernel)) ⟨rfl, ?_⟩)
    refine wpAny_loadName_free rfl (l2_cls) rfl ⟨_, X₁ _ _ hcell, rfl⟩ ?_
    refine wpAny_loadName_local rfl l2_self hns mS ?_
    refine ks_wpAny_isType_cls hC₁ rfl ⟨rfl, ?_⟩
    refine ks_wpAny_call_super hC₁ rfl hx₁ rfl (fun c z => by cases z) (looks_mroIn X₁ IC.slf) (fun h₂ hso k₂ => ?_)
    have X₂ : K.In h₂ := X₁.keeps k₂
    have hx₂ := k₂ _ _ hx₁
    have I₂ : W.InstAt h₂ x (excO C t0) C none := ⟨hx₂, rfl, rfl, trivial⟩
    have hsup := IC.sup
    unfold ks_superIn at hsup
    cases hc : clsIn K C with
    | none =>
      rw [hc] at hsup
      cases hsup
    | some cd =>
    rw [hc] at hsup
    refine kxs_getMethod kxs_ArithmeticError hso (looks_opaque X₂ IC.th) (l₀ := cd.mro) (fun A Q E s k q => wpAny_bind ((looks_clsIn X₂ hc) A _ E s k (wpAny_pure q))) rfl X₂ hsup (I₂.type.andThen (looks_subIn X₂ IC.subA)) (ks_ne X₂ I₂ hc) (by decide +kernel) ?_
    have k₃ : ∀ b o, h₂.get? b = some o → (h₂.push (kxs_mw "ArithmeticError.__init__" x)).get? b = some o := fun b o e => Heap.get?_push_of_some _ e
    have hu : (h₂.push (kxs_mw "ArithmeticError.__init__" x)).get? h₂.objs.size = some (kxs_mw "ArithmeticError.__init__" x) := Heap.get?_push_at rfl rfl
    have kk : ∀ b o, hp.get? b = some o → (h₂.push (kxs_mw "ArithmeticError.__init__" x)).get? b = some o := fun b o e => k₃ _ _ (k₂ _ _ (k _ _ e))
    have hns₃ : (h₂.push (kxs_mw "ArithmeticError.__init__" x)).Ns hp.objs.size (fun y => [(Str.ofString "self", Value.ref x), (kP, v), (kA, u)].reverse.lookup y) := by
      obtain ⟨oL, es, ep, hL, r⟩ := hns
      exact ⟨oL, es, ep, k₃ _ _ (k₂ _ _ hL), r⟩
    have hx₃ := k₃ _ _ hx₂
    have hC₃ := kk _ _ hC
    have hsz : h₂.objs.size < (h₂.push (kxs_mw "ArithmeticError.__init__" x)).objs.size := Heap.lt_size hu
    generalize h₂.push (kxs_mw "ArithmeticError.__init__" x) = h₃ at *
    refine kxs_callWith (i := "ArithmeticError.__init__") (x := x) rfl (evalArgs_plain ?_)
    refine Calls.spliced_cons (wpAny_JoinedStr (pos := p4) (joins2 (env := callEnv (ksFn "__init__" qual (L2.defArgs st) (iniBody2 v1 v2 rest p1 p2 p3 p4 p5 p6 q1 q2 q3 q4 r1 r2 r3 r4) (iniScope2) dV kV doc pm an (.ref cda) ct cc) hp.objs.size fI) rfl l2_p l2_a mF mA fv fu _ Str.empty _ _ hps ?_ hns₃ fun out tk ho => ⟨by rw [sizeLine_eq]; omega, ?_⟩))
    · rw [List.length_cons, List.length_cons]
      show 0 + 1000 * (rest.length + 1 + 1) ≤ 100000
      omega
    refine Calls.spliced_nil ⟨hu, ?_⟩
    -- the library's own rules, over the heap of the call with the error itself left out
    have xL : x ≠ hp.objs.size := Nat.ne_of_lt (Heap.lt_size hx)
    have nK : ∀ a o, K.lookup a = some o → a ∉ [x] := fun a o e z => by
      rw [List.mem_singleton.mp z, hnx] at e
      cases e
    have X₀ : K.In (hideAll hp [x]) := fun a o e => hideAll_get [x] (X a o e) (nK a o e)
    have F₃ : Fr (hideAll hp [x]) hp.objs.size h₃ (fun y => [(Str.ofString "self", Value.ref x), (kP, v), (kA, u)].reverse.lookup y) :=
      ⟨hns₃, fun b o e => kk b o (of_hideAll [x] e), Nat.le_of_eq (hideAll_size [x] hp)⟩
    have L₂ : hp.objs.size < h₂.objs.size := by
      obtain ⟨oL, es, ep, hL, _⟩ := hns
      exact Heap.lt_size (k₂ _ _ hL)
    have ux : h₂.objs.size ≠ x := Nat.ne_of_gt (Nat.lt_trans (Heap.lt_size hx) L₂)
    have uo : (hideAll hp [x]).get? h₂.objs.size = none := by
      cases e : (hideAll hp [x]).get? h₂.objs.size with
      | none => rfl
      | some o => exact absurd (Nat.lt_trans (Heap.lt_size (of_hideAll [x] e)) L₂) (Nat.lt_irrefl _)
    have N₃ : News (hideAll hp [x]) hp.objs.size h₃ [(h₂.objs.size, kxs_mw "ArithmeticError.__init__" x), (x, excObj C t0 none .none)] := fun p hp' => by
      rcases List.mem_cons.mp hp' with rfl | hp'
      · exact ⟨hu, Nat.ne_of_gt L₂, uo⟩
      · obtain rfl := List.mem_singleton.mp hp'
        exact ⟨hx₃, xL, hideAll_none [x] (List.mem_singleton.mpr rfl)⟩
    refine kxs_call F₃ X₀ N₃ F.excBase_ArithmeticError EC.ei List.mem_cons_self (.tail ux (.head fun p z => nomatch z)) (by show 1 ≤ sizeLine; decide) fun t1 h₄ F₄ N₄ lt₄ => ?_
    have X₄ : K.In h₄ := X₀.keeps F₄.keep
    have hx₄ : h₄.get? x = some (excO C t1) := (N₄ (x, excObj C t1 none .none) (by simp)).1
    have tx : t1 ≠ x := Nat.ne_of_gt (lt₄ (x, excObj C t0 none .none) (by simp))
    refine ks_wpAt_execs_cons (ks_wpAt_Assign_Attr (wpAt_of_wpAny (wpAny_Name (wpAny_loadName_local rfl l2_p F₄.ns mF ?_) (by decide +kernel))))
    refine wpAny_Name (wpAny_loadName_local rfl l2_self F₄.ns mS ?_) (by decide +kernel)
    refine set_plain X₄ (ox := excO C t1) (od := none) ⟨hx₄, rfl, rfl, trivial⟩ EC.sa ?_
    have free : takerIn K C kP = some none := by
      rw [takerIn, IC.noF]
      rfl
    refine osa_exc0 (pre := [(t1, _), (h₂.objs.size, _)]) (post := []) F.store_ArithmeticError F₄ N₄ X₄ EC.eo free EC.hdC (fun p z => ?_) (fun p z => nomatch z) (putName_dict _ _ _ _ _ _) rfl (by show 1 ≤ 1000; decide) fun dx h₅ F₅ N₅ lt₅ => ?_
    · rcases List.mem_cons.mp z with rfl | z
      · exact tx
      · obtain rfl := List.mem_singleton.mp z
        exact ux
    have xd : x < dx := lt₅ (x, excObj C t1 none .none) (by simp)
    have ud : h₂.objs.size < dx := lt₅ (h₂.objs.size, kxs_mw "ArithmeticError.__init__" x) (by simp)
    have td : t1 < dx := lt₅ (t1, _) List.mem_cons_self
    have X₅ : K.In h₅ := X₀.keeps F₅.keep
    have hx₅ := (N₅ (x, excObj C t1 (some dx) .none) (by simp)).1
    have hd₅ := (N₅ _ List.mem_cons_self).1
    refine ks_wpAt_execs_cons (ks_wpAt_Assign_Attr (wpAt_of_wpAny (wpAny_Name (wpAny_loadName_local rfl l2_a F₅.ns mA ?_) (by decide +kernel))))
    refine wpAny_Name (wpAny_loadName_local rfl l2_self F₅.ns mS ?_) (by decide +kernel)
    refine set_plain X₅ (od := some _) ⟨hx₅, rfl, rfl, hd₅⟩ EC.sa ?_
    have free2 : takerIn K C kA = some none := by
      rw [takerIn, noA]
      rfl
    refine osa_excD (x := x) (t := t1) (dx := dx) (c2 := .none) (pre := []) (post := [(t1, _), (h₂.objs.size, _), (x, excObj C t1 (some dx) .none)]) F.store_ArithmeticError F₅ N₅ X₅ (by simp) EC.eo free2 EC.hdC (by rw [lookIn_dict]; rfl) (fun p z => nomatch z) (fun p z => ?_) (putName_dict _ _ _ _ _ _) rfl (by show 2 ≤ 1000; decide) fun h₆ F₆ N₆ => ?_
    · rcases List.mem_cons.mp z with rfl | z
      · exact Nat.ne_of_lt td
      · rcases List.mem_cons.mp z with rfl | z
        · exact Nat.ne_of_lt ud
        · obtain rfl := List.mem_singleton.mp z
          exact Nat.ne_of_lt xd
    refine wpAt_of_wpAny (wpAny_execs_nil ?_)
    exact hq h₆ _ dx ⟨fun b o hb e => F₆.keep b o (hideAll_get [x] e fun z => hb (List.mem_singleton.mp z)), ⟨t1, (N₆ (x, excObj C t1 (some dx) .none) (by simp)).1⟩, Nat.le_of_lt (Nat.lt_trans L₂ ud), Nat.ne_of_gt xd, two_keys (N₆ _ List.mem_cons_self).1⟩
end
end ErrX
end PySem

namespace PySem
namespace ErrX
open PySem.W PySem.Calls PySem.HandSPX
section
variable {B newId initId : String} {bmB : List Value} {prog : Program} {w : World} {A : Around} {R : Result → Shared → Prop} {h : Heap}
  {g : Array GenState} {d : Drawn} {t : Nat} {os : OsState} {nm q : Str} {C N : Addr} {bs bm : List Value}
  {hdct : Bool} {sn : List Str} {sub : List Value} {ab : Bool} {col : Option Bool} {dd : Option Addr}
  {k0 k1 k2 k3 k5 : Option Value}
theorem new_kw (F : ExcBaseFacts B newId initId bmB)
  (hT : ∀ (X : String), bm.contains (Value.type X) = bmB.contains (Value.type X)) {rest : List Value} {kw : List (Str × Value)}
  (hC : h.get? C = some (excClassObj nm q C N bs bm hdct sn sub ab col dd k0 k1 k2 k3 k5 newId))
  (hR : R (Except.ok (Flow.ret (Value.ref (h.objs.size + 1)))) { heap := (h.push (W.kdv_tup rest)).push (HandSPX.excO C h.objs.size), gens := g, drawn := d, toks := t, os := os })
  (hl : rest.length ≤ sizeLine) : codeAny (model prog w) A (Code.builtin newId { pos := Value.ref C :: rest, kw := kw }) R { heap := h, gens := g, drawn := d, toks := t, os := os } := by
  have e1 : newId.endsWith ".__new__" = true := F.ends
  have c1 : ∀ X : String, (Value.ref C :: bm).contains (Value.type X) = bmB.contains (Value.type X) := fun X => by
    rw [List.contains_cons, hT X]
    rfl
  refine codeAny_builtinAt (b := Builtin.«BaseException.__new__») F.entry ?_
  refine wpAt_bind (wpAt_bind (wpAt_stack fun p below => wpAt_of_wpAny ?_))
  refine wpAny_ite_true (decide_eq_true e1) (wpAny_pure ?_)
  show wpAt _ _ _ _ _ _ _
  rw [show newId.dropRight 8 = B from F.owner]
  refine wpAt_of_wpAny ?_
  refine wpAny_bind (wpAny_bind (wpAny_loadPart_at hC (wpAny_pure ?_)))
  refine wpAny_ite_false rfl ?_
  refine wpAny_bind (wpAny_isSubtype_exc hC ?_)
  rw [c1 B, F.hasB]
  refine wpAny_ite_false rfl ?_
  refine wpAny_bind (wpAny_madeHere_exc F.canon hC ?_)
  refine wpAny_bind (wpAny_bind (wpAny_isSubtype_exc hC ?_))
  rw [c1 "AttributeError", F.noAttr]
  refine wpAny_ite_false rfl ?_
  refine wpAny_bind (wpAny_isSubtype_exc hC ?_)
  rw [c1 "NameError", F.noName]
  refine wpAny_ite_false rfl (wpAny_pure ?_)
  refine wpAny_bind (wpAny_ite_false (by simp; omega) ?_)
  refine wpAny_bind (wpAny_alloc' (wpAny_pure ?_))
  simp only [List.replicate, Array.append_empty]
  refine wpAny_bind ?_
  unfold newObj
  dsimp only
  rw [if_neg (show ¬ (#[Value.ref h.objs.size, Value.none, Value.none, Value.none, Value.bool false, Value.none].size > sizeLine + 2) by rw [sizeLine_eq]; exact (by decide : ¬ (6 > 16777216 + 2)))]
  refine wpAny_bind (wpAny_alloc' ?_)
  refine wpAny_bind (wpAny_bind (wpAny_load' (Heap.get?_push_of_some _ (Heap.get?_push_of_some _ hC)) (wpAny_pure ?_)))
  refine wpAny_ite_false rfl (wpAny_pure ?_)
  refine wpAny_pure ?_
  show R _ _
  rw [Heap.size_push]
  exact hR
theorem check_new_kw (F : ExcBaseFacts B newId initId bmB) {rest : List Value} {kw : List (Str × Value)} : checkBuiltinCall newId { pos := Value.ref C :: rest, kw := kw } = checkBuiltinCall newId { pos := Value.ref C :: rest, kw := [] } := by
  have e1 : ∀ kw : List (Str × Value), Bind.checkArgs newId { machinery := Manifest.Machinery.any, full := B, short := B, receiver := Manifest.Receiver.cls, params := [{ name := "args", kind := Manifest.ParamKind.varPos, required := false }, { name := "kwargs", kind := Manifest.ParamKind.varKw, required := false }] } { pos := Value.ref C :: rest, kw := kw } = Bind.checkArgs newId { machinery := Manifest.Machinery.any, full := B, short := B, receiver := Manifest.Receiver.cls, params := [{ name := "args", kind := Manifest.ParamKind.varPos, required := false }, { name := "kwargs", kind := Manifest.ParamKind.varKw, required := false }] } { pos := Value.ref C :: rest, kw := [] } := fun kw => rfl
  unfold checkBuiltinCall
  rw [F.newRow, F.newKind, F.newSplit]
  dsimp only
  rw [e1]
theorem check_type_kw {rest : List Value} {kw : List (Str × Value)} : checkBuiltinCall "type.__call__" { pos := Value.ref C :: rest, kw := kw } = checkBuiltinCall "type.__call__" { pos := Value.ref C :: rest, kw := [] } := by
  have sg : ∃ ps, Manifest.signature? "type.__call__" = some { machinery := Manifest.Machinery.hand, full := "wrapper __call__", short := "", receiver := Manifest.Receiver.self, params := ps } := ⟨_, by rfl⟩
  obtain ⟨ps, sg⟩ := sg
  unfold checkBuiltinCall
  rw [sg, tc_kind, tc_split]
  rfl
theorem type_call_kw {E : Value → Shared → Prop} (F : ExcBaseFacts B newId initId bmB)
  (hT : ∀ (X : String), bm.contains (Value.type X) = bmB.contains (Value.type X)) {rest : List Value} {kw : List (Str × Value)} {fI : Addr} {Q : PySem.Fin → Shared → Prop}
  (hC : h.get? C = some (excClassObj nm q C N bs bm hdct sn sub ab col dd k0 k1 k2 k3 k5 newId))
  (hf : W.Looks (model prog w) h (typeLookup (Value.ref C) (Str.ofString "__init__")) (some (Value.ref fI)))
  (hb : ∀ (self : Value), W.Looks (model prog w) h (bindSpecial (Value.ref fI) self) (Value.ref fI, [self]))
  (hl : rest.length ≤ sizeLine)
  (hq : codeAny (model prog w) A (Code.call (Value.ref fI) { pos := Value.ref (h.objs.size + 1) :: rest, kw := kw })
    (fun r s' => match r with
      | Except.ok (Flow.ret v) => v = Value.none ∧ Q (Fin.done (Flow.ret (Value.ref (h.objs.size + 1)))) s'
      | Except.ok a => False
      | Except.error e => E e s')
    { heap := (h.push (W.kdv_tup rest)).push (HandSPX.excO C h.objs.size), gens := g, drawn := d, toks := t, os := os }) :
  wpAny (model prog w) A (Builtin.«type.__call__» { pos := Value.ref C :: rest, kw := kw }) Q E { heap := h, gens := g, drawn := d, toks := t, os := os } := by
  unfold Builtin.«type.__call__»
  dsimp only
  rw [if_neg (show ¬ ((Value.ref C == Value.type "type") = true) by simp)]
  refine wpAny_bind (wpAny_bind (wpAny_bind (wpAny_load' hC (wpAny_pure (wpAny_pure ?_)))))
  dsimp only
  rw [if_neg (show ¬ (List.isEmpty (Value.ref C :: bm) = true) by simp)]
  refine wpAny_bind (wpAny_madeBy_exc hC ?_)
  refine wpAny_bind (wpAny_pure ?_)
  refine wpAny_bind (wpAny_holding (wpAny_call (codeAny_call_builtin_code (Code.quiet_builtin _ F.quiet) ?_)))
  rw [check_new_kw F]
  refine HandSPX.check_new_own F hT hC (new_kw F hT hC ?_ hl)
  have gx : ((h.push (W.kdv_tup rest)).push (HandSPX.excO C h.objs.size)).get? (h.objs.size + 1) = some (HandSPX.excO C h.objs.size) := by heap_get
  have hC' : ((h.push (W.kdv_tup rest)).push (HandSPX.excO C h.objs.size)).get? C = some (excClassObj nm q C N bs bm hdct sn sub ab col dd k0 k1 k2 k3 k5 newId) := Heap.get?_push_of_some _ (Heap.get?_push_of_some _ hC)
  have kk : ∀ b o, h.get? b = some o → ((h.push (W.kdv_tup rest)).push (HandSPX.excO C h.objs.size)).get? b = some o := fun b o e => Heap.get?_push_of_some _ (Heap.get?_push_of_some _ e)
  generalize ((h.push (W.kdv_tup rest)).push (HandSPX.excO C h.objs.size)) = h2 at *
  refine wpAny_bind (wpAny_bind (wpAny_bind (wpAny_loadPart_at gx (wpAny_pure ?_))))
  refine wpAny_isSubtype_exc hC' ?_
  rw [List.contains_cons, beq_self_eq_true]
  rw [Bool.true_or]
  refine wpAny_ite_false rfl ?_
  refine wpAny_bind (wpAny_holding ?_)
  unfold callSpecial?
  refine wpAny_bind (wpAny_bind (wpAny_bind (wpAny_loadPart_at gx (wpAny_pure ?_))))
  refine (hf.keeps kk).at ?_
  refine wpAny_holding (wpAny_bind (((hb _).keeps kk).at ?_))
  refine wpAny_bind (wpAny_call ?_)
  refine codeAny_mono hq fun r s' hr => ?_
  match r, hr with
  | Except.ok (Flow.ret v), hr =>
    obtain ⟨rfl, hr⟩ := hr
    exact wpAny_pure (wpAny_pure hr)
  | Except.ok .next, hr => exact hr
  | Except.ok .brk, hr => exact hr
  | Except.ok .cont, hr => exact hr
  | Except.error e, hr => exact hr
/-- a class with an own __init__ is called with keywords too -/
theorem call_kw {B newId initId : String} (F : ExcBaseFacts B newId initId bmB)
  (hT : ∀ (X : String), bm.contains (Value.type X) = bmB.contains (Value.type X)) {rest : List Value} {kw : List (Str × Value)} {fI : Addr}
  (hC : h.get? C = some (excClassObj nm q C N bs bm hdct sn sub ab col dd k0 k1 k2 k3 k5 newId))
  (hf : W.Looks (model prog w) h (typeLookup (Value.ref C) (Str.ofString "__init__")) (some (Value.ref fI)))
  (hb : ∀ (self : Value), W.Looks (model prog w) h (bindSpecial (Value.ref fI) self) (Value.ref fI, [self]))
  (hl : rest.length ≤ sizeLine)
  (hq : codeAny (model prog w) (A.under (Code.builtin "type.__call__" { pos := Value.ref C :: rest, kw := kw })) (Code.call (Value.ref fI) { pos := Value.ref (h.objs.size + 1) :: rest, kw := kw })
    (W.InitBack (h.objs.size + 1) R)
    { heap := (h.push (W.kdv_tup rest)).push (HandSPX.excO C h.objs.size), gens := g, drawn := d, toks := t, os := os }) :
  codeAny (model prog w) A (Code.call (Value.ref C) { pos := rest, kw := kw }) R { heap := h, gens := g, drawn := d, toks := t, os := os } := by
  refine codeAny_of_tree ?_
  show wpAny _ _ (callAny (Value.ref C) { pos := rest, kw := kw }) _ _ _
  unfold callAny
  refine wpAny_bind (wpAny_load' hC ?_)
  dsimp only
  unfold callAny.viaDunder
  refine wpAny_bind (wpAny_specialOf (T := "type") ⟨_, hC, rfl⟩ tc_lookup ?_)
  dsimp only
  rw [tc_bind]
  refine wpAny_bind (wpAny_pure ?_)
  dsimp only
  refine wpAny_bind (wpAny_pure ?_)
  refine wpAny_ite_true (by simp) (wpAny_pure ⟨rfl, ?_⟩)
  refine codeAny_call_builtin_at (Code.quiet_builtin _ (by decide +kernel)) entry_typeCall ?_
  show wpAny _ _ (checkBuiltinCall "type.__call__" { pos := Value.ref C :: rest, kw := kw }) _ _ _
  rw [check_type_kw]
  refine wpAny_check_type_call_sub hC ?_
  refine type_call_kw F hT hC hf hb hl (codeAny_mono hq fun r s' hr => ?_)
  match r, hr with
  | Except.ok (Flow.ret v), hr => exact hr
  | Except.ok .next, hr => exact hr
  | Except.ok .brk, hr => exact hr
  | Except.ok .cont, hr => exact hr
  | Except.error e, hr => exact hr
end
end ErrX
end PySem

namespace E1
open PySem PySem.Spec PyProof.Rows L2
open PySem.ErrX (ErrC IniC FmtOk FmtN kP kA bmA)
/-! ### errors as values -/
/-- an error at a, of the class C; d: where its own dict is -/
def ErO (C : Addr) (d : Option Addr) (a : Addr) : HO := .ext fun h => ∃ oe vs, h.get? a = some oe ∧ Zc (.ref C) d oe ∧ oe.data = .fields vs
theorem erO_ok {P : Program} {w : World} {H : Hp} {h : Heap} {a C : Addr} {d : Option Addr} {oe : Obj} {vs : Array Value} (g : h.get? a = some oe) (z : Zc (.ref C) d oe) (f : oe.data = .fields vs) : ObjOk P w H h a (ErO C d a) :=
  ⟨⟨oe, vs, g, z, f⟩, ⟨oe, g⟩, fun h1 h2 ⟨o2, v2, g2, z2, f2⟩ k => ⟨o2, v2, k _ g2, z2, f2⟩⟩
/-- a made error with its fields -/
structure MadeF (h h' : Heap) (e C d : Addr) (fs : List (Str × V)) : Prop where
  keep : ∀ b o, h.get? b = some o → h'.get? b = some o
  new : h.objs.size ≤ e
  obj : ∃ oe vs, h'.get? e = some oe ∧ Zc (.ref C) (some d) oe ∧ oe.data = .fields vs
  dbig : h.objs.size ≤ d
  dne : d ≠ e
  ns : ∃ mA, h'.Ns1 d mA ∧ ∀ f, RelO (List.lookup f fs) (mA f)
/-! ### how arguments come to fields -/
/-- a value that is written as a text of at most a thousand signs -/
def VFmt (v : V) : Prop := (∃ y : Str, v = .str y ∧ y.length ≤ 1000) ∨ ∃ i : Int, v = .int i ∧ i.natAbs.log2 < 1920 ∧ (toString i : String).length ≤ 1000
theorem VFmt.ok {v : V} {u : Value} (h : VFmt v) (r : RelV v u) : FmtOk u := by
  rcases h with ⟨y, rfl, hy⟩ | ⟨i, rfl, hi, hy⟩
  · obtain ⟨t, rfl⟩ := (show ∃ t, u = Value.str y t from r)
    exact .inl ⟨y, t, rfl, hy⟩
  · obtain ⟨t, rfl⟩ := (show ∃ t, u = Value.int i t from r)
    exact .inr ⟨i, t, rfl, hi, hy⟩
theorem relO_one {fld : Str} {v : V} {v' : Value} (r : RelV v v') (f : Str) : RelO (List.lookup f [(fld, v)]) (if f = fld then some v' else none) := by
  by_cases hw : f = fld
  · subst hw
    rw [if_pos rfl]
    have q : List.lookup f [(f, v)] = some v := by simp [List.lookup]
    rw [q]
    exact r
  · rw [if_neg hw]
    have qw : (f == fld) = false := by simpa using hw
    have q2 : List.lookup f [(fld, v)] = none := by simp [List.lookup, qw]
    rw [q2]
    trivial
/-- a value that is written as a text of at most a thousand signs, None too -/
def VFmtN (v : V) : Prop := VFmt v ∨ v = .non
theorem VFmtN.ok {v : V} {u : Value} (h : VFmtN v) (r : RelV v u) : FmtN u := by
  rcases h with h | rfl
  · exact .inl (h.ok r)
  · exact .inr r
theorem relO_two {v u : V} {v' u' : Value} (r : RelV v v') (r2 : RelV u u') (f : Str) : RelO (List.lookup f [(kP, v), (kA, u)]) (if f = kP then some v' else if f = kA then some u' else none) := by
  by_cases hw : f = kP
  · subst hw
    rw [if_pos rfl, List.lookup_cons, beq_self_eq_true]
    exact r
  · rw [if_neg hw, List.lookup_cons, show (f == kP) = false from beq_eq_false_iff_ne.mpr hw]
    by_cases h2 : f = kA
    · subst h2
      rw [if_pos rfl]
      show RelO (List.lookup kA [(kA, u)]) _
      rw [List.lookup_cons, beq_self_eq_true]
      exact r2
    · rw [if_neg h2]
      show RelO (List.lookup f [(kA, u)]) _
      rw [List.lookup_cons, show (f == kA) = false from beq_eq_false_iff_ne.mpr h2]
      trivial
/-- how arguments by place and by name come to fields -/
abbrev Bd : Type := List V → List (Str × V) → List (Str × V) → Prop
/-- one field; d: what it is where nothing is handed in -/
def B1 (fld : Str) (d : Option V) : Bd := fun vs ks fs => ∃ v, VFmt v ∧ fs = [(fld, v)] ∧ ((vs = [v] ∧ ks = []) ∨ (vs = [] ∧ ks = [(fld, v)]) ∨ (vs = [] ∧ ks = [] ∧ d = some v))
/-- one field of any kind -/
def B1a (fld : Str) : Bd := fun vs ks fs => ∃ v, fs = [(fld, v)] ∧ ((vs = [v] ∧ ks = []) ∨ (vs = [] ∧ ks = [(fld, v)]))
def B2 : Bd := fun vs ks fs => ∃ v u, VFmtN v ∧ VFmtN u ∧ fs = [(kP, v), (kA, u)] ∧ ((vs = [v, u] ∧ ks = []) ∨ (vs = [] ∧ ks = [(kA, u), (kP, v)]) ∨ (vs = [v] ∧ ks = [] ∧ u = .non))
theorem zip0 {ns : List Str} {zs : List V} {ws : List Value} (r : Vals zs ws) (hn : ns.length = zs.length) (h : ns.zip zs = []) : ns.zip ws = [] := by
  cases ns with
  | nil => rfl
  | cons a t =>
    cases zs with
    | nil => cases hn
    | cons b u => cases h
theorem zip1 {ns : List Str} {zs : List V} {ws : List Value} {x : Str} {v : V} (r : Vals zs ws) (hn : ns.length = zs.length) (h : ns.zip zs = [(x, v)]) : ∃ u, RelV v u ∧ ns.zip ws = [(x, u)] := by
  match ns, zs, ws, r, hn, h with
  | [n], [z], [u], .cons r .nil, _, h =>
    cases h
    exact ⟨u, r, rfl⟩
  | _ :: _ :: _, _ :: _ :: _, _, _, _, h => cases h
theorem zip2 {ns : List Str} {zs : List V} {ws : List Value} {x y : Str} {v v2 : V} (r : Vals zs ws) (hn : ns.length = zs.length) (h : ns.zip zs = [(x, v), (y, v2)]) : ∃ u u2, RelV v u ∧ RelV v2 u2 ∧ ns.zip ws = [(x, u), (y, u2)] := by
  match ns, zs, ws, r, hn, h with
  | [n, m], [z, z2], [u, u2], .cons r (.cons r2 .nil), _, h =>
    cases h
    exact ⟨u, u2, r, r2, rfl⟩
  | [_], [_], _, _, _, h => cases h
  | _ :: _ :: _ :: _, _ :: _ :: _ :: _, _, _, _, h => cases h
/-- its __init__ does as it should -/
structure IniF (P : Program) (w : World) (K : PySem.W.Frag) (mg : Str → Option Value) (C fI : Addr) (B : Bd) : Prop where
  iC : PySem.W.findIn K (.ref C) "__init__" = some (some (.ref fI))
  tC : PySem.W.typeIn K (.ref fI) = some (.type "function")
  few : ∀ vs ks fs, B vs ks fs → vs.length ≤ 5
  run : ∀ (A : Around) (R : Result → Shared → Prop) (s : Shared) (x t0 : Addr) (vs : List V) (us : List Value) (ns : List Str) (zs : List V) (ws : List Value) (fs : List (Str × V)), L2.Mod K mg s.heap → s.heap.get? x = some (PySem.HandSPX.excO C t0) → K.lookup x = none → A.depth < recursionLimit → B vs (ns.zip zs) fs → Vals vs us → Vals zs ws → ns.length = zs.length →
    (∀ h' tk dx, (∀ b o, b ≠ x → s.heap.get? b = some o → h'.get? b = some o) → (∃ t1 : Addr, h'.get? x = some { cls := .ref C, dict := some dx, data := .fields #[.ref t1, .none, .none, .none, .bool false, .none] }) → s.heap.objs.size ≤ dx → dx ≠ x → (∃ mA, h'.Ns1 dx mA ∧ ∀ f, RelO (List.lookup f fs) (mA f)) → R (.ok (.ret .none)) { s with heap := h', toks := tk }) →
    codeAny (model P w) A (.call (.ref fI) ⟨.ref x :: us, ns.zip ws⟩) R s
section
variable {prog : Program} {w : World} {A : Around} {E : Value → Shared → Prop} {R : Result → Shared → Prop} {s : Shared} {K : PySem.W.Frag} {mg : Str → Option Value} {C fI : Addr} {nm : Str} {B : Bd}
theorem err_madeF (EC : ErrC K mg nm C) (IO : IniF prog w K mg C fI B) {vs : List V} {us : List Value} {ns : List Str} {zs : List V} {ws : List Value} {fs : List (Str × V)} (MO : L2.Mod K mg s.heap) (hroom : A.depth + 1 < recursionLimit)
    (hB : B vs (ns.zip zs) fs) (r : Vals vs us) (rz : Vals zs ws) (hn : ns.length = zs.length)
    (hq : ∀ h' tk e d, MadeF s.heap h' e C d fs → R (.ok (.ret (.ref e))) { s with heap := h', toks := tk }) :
    codeAny (model prog w) A (.call (.ref C) ⟨us, ns.zip ws⟩) R s := by
  have X := MO.kin
  obtain ⟨nm', N', qn, bs, bm, hdct, sn, sub, ab, col, dd, k0, k1, k2, k3, k5, hC, hT⟩ := PySem.W.excInit_of X EC.ei
  obtain ⟨hp, g, dr, tk, os⟩ := s
  have k : ∀ b o, hp.get? b = some o → ((hp.push (PySem.W.kdv_tup us)).push (PySem.HandSPX.excO C hp.objs.size)).get? b = some o := fun b o e => Heap.get?_push_of_some _ (Heap.get?_push_of_some _ e)
  have hget : ((hp.push (PySem.W.kdv_tup us)).push (PySem.HandSPX.excO C hp.objs.size)).get? (hp.objs.size + 1) = some (PySem.HandSPX.excO C hp.objs.size) := by heap_get
  have hnx : K.lookup (hp.objs.size + 1) = none := by
    cases e : K.lookup (hp.objs.size + 1) with
    | none => rfl
    | some o =>
      have z : hp.get? (hp.objs.size + 1) = some o := X _ _ e
      exact absurd (Nat.lt_of_succ_lt (Heap.lt_size z)) (Nat.lt_irrefl _)
  have MO' : L2.Mod K mg ((hp.push (PySem.W.kdv_tup us)).push (PySem.HandSPX.excO C hp.objs.size)) := by
    obtain ⟨mb, h1, h2⟩ := MO.blt
    exact ⟨X.keeps k, MO.glob.keeps k, ⟨mb, h1.keeps k, h2⟩, MO.nolimit.keeps k⟩
  have hl : us.length ≤ sizeLine := by
    have h5 := IO.few _ _ _ hB
    have e5 := r.length
    rw [sizeLine_eq]
    omega
  refine PySem.ErrX.call_kw F.excBase_ArithmeticError hT hC (PySem.W.looks_findIn X IO.iC) (fun self => PySem.W.bind_fn X self IO.tC) hl ?_
  refine IO.run _ _ ⟨(hp.push (PySem.W.kdv_tup us)).push (PySem.HandSPX.excO C hp.objs.size), g, dr, tk, os⟩ _ _ _ _ _ _ _ _ MO' hget hnx ?_ hB r rz hn fun h' tk' dx k' ⟨t1, hx⟩ dn dne hns => ?_
  · show A.depth + 1 < recursionLimit
    exact hroom
  · have old : ∀ b o, hp.get? b = some o → h'.get? b = some o := fun b o e => k' b o (Nat.ne_of_lt (Nat.lt_succ_of_lt (Heap.lt_size e))) (k b o e)
    have z : hp.objs.size + 1 + 1 ≤ dx := by
      first
        | (simpa only [Heap.size_push] using dn)
        | exact dn
        | (have q := dn; rw [Heap.size_push, Heap.size_push] at q; exact q)
    exact ⟨rfl, hq h' tk' (hp.objs.size + 1) dx ⟨old, Nat.le_succ _, ⟨_, _, hx, ⟨rfl, rfl⟩, rfl⟩, Nat.le_trans (Nat.le_trans (Nat.le_succ _) (Nat.le_succ _)) z, dne, hns⟩⟩
end
section
variable {X : Cx} {C fI : Addr} {x : Str} {B : Bd}
/-- X(..), an error that is kept -/
def tErV (C : Addr) (B : Bd) (ns : List Str) (t tk : TA) : TE := fun σ H Q => t σ H fun vs H1 => tk σ H1 fun zs H2 => ns.length = zs.length ∧ ∃ fs, B vs (ns.zip zs) fs ∧ ∀ a d, H2 a = none → H2 d = none → d ≠ a → Q (.ref a) (upd (upd H2 d (.xd fs)) a (ErO C (some d) a))
theorem run_erV {k : Nat} {pins : List (Addr × Obj)} {s : Shared} {σ : L2.St} {H : Hp} {Q : VK} {vs : List V} {us : List Value} {ns : List Str} {zs : List V} {ws : List Value} {fs : List (Str × V)} (EC : ErrC X.K X.mg x C) (IO : IniF X.prog X.w X.K X.mg C fI B) (hr : Room k X.A)
    (I : L2.Inv X pins σ H s) (hB : B vs (ns.zip zs) fs) (r : Vals vs us) (rz : Vals zs ws) (hn : ns.length = zs.length) (q : ∀ a d, H a = none → H d = none → d ≠ a → Q (.ref a) (upd (upd H d (.xd fs)) a (ErO C (some d) a))) :
    wpAny (model X.prog X.w) X.A (call (.ref C) us (ns.zip ws)) (EP X pins σ Q) X.xe s := by
  have MO : Mod X.K X.mg s.heap := by
    obtain ⟨mb, h1, h2⟩ := I.mod.blt
    exact ⟨I.kIn, I.mod.glob.keeps I.bk, ⟨mb, h1.keeps I.bk, h2⟩, I.nolimit⟩
  obtain ⟨hp, g, dr, tk, os⟩ := s
  refine wpAny_call (err_madeF EC IO MO (by have := hr.dp; omega) hB r rz hn fun h' tk' e d M => ?_)
  show EP X pins σ Q (.ref e) ⟨h', g, dr, tk', os⟩
  obtain ⟨oe, fv', hoe, hz, hdat⟩ := M.obj
  obtain ⟨mA, hns, rel⟩ := M.ns
  obtain ⟨G', g1, g2⟩ := restrict h' fun b => decide (b ≠ e)
  have gk : ∀ b, b ≠ e → G'.get? b = h'.get? b := fun b hb => g1 b (decide_eq_true hb)
  have ge : G'.get? e = none := g2 e (by simp)
  have old : ∀ b o, hp.get? b = some o → G'.get? b = some o := fun b o q => (gk b (Nat.ne_of_lt (Nat.lt_of_lt_of_le (Heap.lt_size q) M.new))).trans (M.keep b o q)
  have J : Inv X pins σ (upd H d (.xd fs)) ⟨G', g, dr, tk', os⟩ := I.laid (t' := tk') old M.dbig ⟨mA, hns.at (fun o q => (gk d M.dne).trans q), rel⟩
  have he0 : H e = none := I.hok.fresh M.new
  have hd0 : H d = none := I.hok.fresh M.dbig
  have he1 : upd H d (.xd fs) e = none := by
    rw [upd_ne (Ne.symm M.dne)]
    exact he0
  have gh : ∀ b o, G'.get? b = some o → h'.get? b = some o := fun b o q => by
    by_cases hb : b = e
    · rw [hb, ge] at q
      cases q
    · exact (gk b hb).symm.trans q
  exact ⟨.ref e, _, J.laidN (t' := tk') gh ge he1 (erO_ok hoe hz hdat), rfl, q e d he0 hd0 M.dne⟩
theorem pe_erV {k : Nat} {ns : List Str} {e : Expr} {es : List Expr} {kws : List Keyword} {t tk : TA} {p pos : Pos} (EC : ErrC X.K X.mg x C) (IO : IniF X.prog X.w X.K X.mg C fI B) (hr : Room k X.A) (ha : PA X (e :: es) t) (hg : Gl X x := by rfl)
    (hdb : (x == ("__debug__" : Str)) = false := by decide) (he : starEach (e :: es) X.env = (false, eval e X.env) :: starEach es X.env := by rfl) (hpl : (backTo pos (starEach es X.env)).any (·.1) = false := by rfl) :
    PE X (.Call (.Name x p) (e :: es) [] pos) (tErV C B [] t tNil) := by
  refine ⟨fun pins s σ H Q I h => ?_⟩
  refine wpAny_Call_Name_kw (ld_glob I hg EC.gC ?_ hdb)
  refine PySem.W.callWith_K (h₀ := X.base) I.ok.mod.kin EC.kC (thn (ha.run pos pins s σ H _ I h) fun us s1 hh => ?_) he hpl
  obtain ⟨vs, H1, I1, r1, -, fs, hB, q⟩ := hh
  exact ⟨I1.kIn, run_erV (ns := []) (zs := []) (ws := []) EC IO hr I1 hB r1 .nil rfl q⟩
theorem pe_erK {k : Nat} {ns : List Str} {kws : List Keyword} {tk : TA} {p pos : Pos} (EC : ErrC X.K X.mg x C) (IO : IniF X.prog X.w X.K X.mg C fI B) (hr : Room k X.A) (hkw : PK X kws tk) (hg : Gl X x := by rfl)
    (hall : (backToKw pos (keywordEach kws X.env)).all (·.1.isSome) = true := by rfl) (hks : (backToKw pos (keywordEach kws X.env)).filterMap (·.1) = ns := by rfl)
    (hdb : (x == ("__debug__" : Str)) = false := by decide)
    (hpl : ((backTo pos (starEach [] X.env)).any (·.1) || (backToKw pos (keywordEach kws X.env)).any (·.1.isNone)) = false := by rfl) :
    PE X (.Call (.Name x p) [] kws pos) (tErV C B ns tNil tk) := by
  refine ⟨fun pins s σ H Q I h => ?_⟩
  refine wpAny_Call_Name_kw (ld_glob I hg EC.gC ?_ hdb)
  refine PySem.W.callWith_KW0 (h₀ := X.base) I.ok.mod.kin EC.kC hall (thn (hkw.run pos pins s σ H _ I h) fun ws s2 ⟨zs, H2, I2, rz, hn, fs, hB, q⟩ => ⟨I2.kIn, ?_⟩) hpl
  rw [hks]
  exact run_erV (us := []) EC IO hr I2 hB .nil rz hn q
/-! ### a field of an error, what it is an instance of -/
def tXfO (K : PySem.W.Frag) (n : Str) (te : TE) : TE := fun σ H Q => te σ H fun x H1 => ∃ (a C d : Addr) (fs : List (Str × V)) (v : V), x = .ref a ∧ H1 a = some (ErO C (some d) a) ∧ H1 d = some (.xd fs) ∧ XfC K C ∧ PySem.W.findIn K (.ref C) n = some none ∧ fs.lookup n = some v ∧ Q v H1
theorem pe_xfO {e : Expr} {te : TE} {n : Str} {pos : Pos} (he : PE X e te) (hb : attributeBase e n X.env (eval e X.env) = eval e X.env := by rfl) : PE X (.Attribute e n pos) (tXfO X.K n te) := by
  refine ⟨fun pins s σ H Q I h => attr_of hb (thn (he.run pins s σ H _ I h) fun u s1 hh => ?_)⟩
  obtain ⟨x0, H1, I1, rx, a, C, d, fs, v, rfl, ha, hd, T, hno, hl, q⟩ := hh
  cases rx
  obtain ⟨⟨oe, vs, g, z, f⟩, -⟩ := show ObjOk X.prog X.w H1 s1.heap a (ErO C (some d) a) from I1.hok a _ ha
  obtain ⟨mA, hns, rel⟩ := show ObjOk X.prog X.w H1 s1.heap d (.xd fs) from I1.hok d _ hd
  obtain ⟨od, ho, hlk⟩ := lookIn_ns hns
  have rn := rel n
  rw [hl] at rn
  obtain ⟨u, eu, ru⟩ := RelO.some_of rn
  have inst : PySem.W.InstAt s1.heap a oe C (some od) := by
    refine ⟨g, z.1, ?_, ?_⟩
    · obtain ⟨_, _, dat, _⟩ := oe
      dsimp only at f ⊢
      rw [f]
      rfl
    · simpa [z.2] using ho
  refine PySem.HandSPX.exc_get I1.kIn inst T.ga T.gg T.exC (PySem.W.findObj_own T.hdC hno rfl ((hlk n).trans (congrArg some eu))) (handed_of ru) ?_
  exact ⟨v, H1, I1.tok _, ru, q⟩
theorem kitO {K : PySem.W.Frag} {a C : Addr} {d : Option Addr} {H : Hp} {P : Program} {w : World} {h : Heap} (hok : HOk P w H h) (XC : ExcC K C) (ha : H a = some (ErO C d a)) (hd : ∀ dd, d = some dd → ∃ fs, H dd = some (.xd fs)) :
    ∃ (oe : Obj) (od : Option Obj), PySem.W.KitX K (.ref a) (.ref C) (fun h => PySem.W.InstAt h a oe C od) ∧ PySem.W.InstAt h a oe C od := by
  obtain ⟨⟨oe, vs, g, z, f⟩, -⟩ := show ObjOk P w H h a (ErO C d a) from hok a _ ha
  have known : (PySem.W.clsIn K C).isSome = true := Option.isSome_iff_exists.mpr ((PySem.W.any_some XC.hd).imp fun _ z => z.1)
  have no : PySem.W.notCls oe = true := by
    obtain ⟨_, _, dat, _⟩ := oe
    dsimp only at f ⊢
    rw [f]
    rfl
  match d, z, hd with
  | none, z, _ => exact ⟨oe, none, PySem.W.kitx_exc known XC.hg XC.hk XC.hs XC.ha XC.hn XC.ht XC.hm, g, z.1, no, by simp [z.2]⟩
  | some dd, z, hd =>
    obtain ⟨fs, hfs⟩ := hd dd rfl
    obtain ⟨mA, hns, rel⟩ := show ObjOk P w H h dd (.xd fs) from hok dd _ hfs
    obtain ⟨od, ho, hlk⟩ := lookIn_ns hns
    exact ⟨oe, some od, PySem.W.kitx_exc known XC.hg XC.hk XC.hs XC.ha XC.hn XC.ht XC.hm, g, z.1, no, by simpa [z.2] using ho⟩
/-- an error that is kept -/
def IsE (K : PySem.W.Frag) (H : Hp) (C a : Addr) : Prop := ExcC K C ∧ ∃ d, H a = some (ErO C d a) ∧ ∀ dd, d = some dd → ∃ fs, H dd = some (.xd fs)
def rIsO (K : PySem.W.Frag) : List V → Hp → VK → Prop := fun xs H Q => ∃ (a C : Addr) (c : V) (cv : Value) (b : Bool), xs = [.ref a, c] ∧ IsE K H C a ∧ (∀ u, RelV c u → u = cv) ∧ PySem.W.kitOne K (.ref C) cv = some b ∧ Q (.bl b) H
theorem call_isO : CallR X (.builtin "isinstance") (rIsO X.K) := by
  intro pins s σ H xs us Q I r ⟨a, C, c, cv, b, hxs, ⟨XC, d, ha, hd⟩, only, yes, q⟩
  subst hxs
  match us, r with
  | [x, u], .cons hx (.cons hu .nil) =>
    cases hx
    cases only u hu
    obtain ⟨oe, od, kit, inst⟩ := kitO I.hok XC ha hd
    exact PySem.W.kia_one kit I.kIn inst yes (fun z => nomatch z) fun tk => ⟨.bl b, H, I.kept (t' := tk) fun _ _ z => z, rfl, q⟩
def rIsOT (K : PySem.W.Frag) : List V → Hp → VK → Prop := fun xs H Q => ∃ (a C tp : Addr) (cs : List V) (us : List Value) (b : Bool), xs = [.ref a, .ref tp] ∧ IsE K H C a ∧ H tp = some (.tup cs) ∧ Paired ClsV cs us ∧ PySem.W.kitAny K (.ref C) us = some b ∧ Q (.bl b) H
theorem clsV_rel {cs : List V} {us ws : List Value} (p : Paired ClsV cs us) (q : Vals cs ws) : ws = us := by
  induction p generalizing ws with
  | nil =>
    cases q
    rfl
  | cons h t ih =>
    cases q with
    | cons r rs =>
      rw [ih rs]
      cases h with
      | ty n => rw [show _ = Value.type n from r]
      | own C => rw [show _ = Value.ref C from r]
theorem call_isOT : CallR X (.builtin "isinstance") (rIsOT X.K) := by
  intro pins s σ H xs us Q I r ⟨a, C, tp, cs, cu, b, hxs, ⟨XC, d, ha, hd⟩, htp, pc, yes, q⟩
  subst hxs
  match us, r with
  | [x, u], .cons hx (.cons hu .nil) =>
    cases hx
    cases hu
    obtain ⟨oe, od, kit, inst⟩ := kitO I.hok XC ha hd
    obtain ⟨hl, its, rel, hit⟩ := show ObjOk X.prog X.w H s.heap tp (.tup cs) from I.hok tp _ htp
    have e := clsV_rel pc rel
    subst e
    obtain ⟨oo, hit, ec, nn, en⟩ := hit
    obtain ⟨oc, od2, dt, sl⟩ := oo
    dsimp only at ec en
    subst ec en
    exact PySem.W.kia_tup kit I.kIn inst hit yes (fun z => nomatch z) fun tk => ⟨.bl b, H, I.kept (t' := tk) fun _ _ z => z, rfl, q⟩
/-- X(..) of a class that has no own __init__ -/
def tExV (C : Addr) (t : TA) : TE := fun σ H Q => t σ H fun vs H1 => vs.length ≤ 5 ∧ ∀ a, H1 a = none → Q (.ref a) (upd H1 a (ErO C none a))
/-- such a class -/
structure ExP (K : PySem.W.Frag) (mg : Str → Option Value) (x : Str) (C : Addr) : Prop where
  q : PySem.W.excIn K C bmA "ArithmeticError.__new__" = true
  gC : mg x = some (.ref C)
  kC : PySem.W.keepIn K (.ref C) = true
theorem run_exV {pins : List (Addr × Obj)} {s : Shared} {σ : L2.St} {H : Hp} {Q : VK} {vs : List V} {us : List Value} (E : ExP X.K X.mg x C)
    (I : L2.Inv X pins σ H s) (r : Vals vs us) (hl : vs.length ≤ 5) (q : ∀ a, H a = none → Q (.ref a) (upd H a (ErO C none a))) :
    wpAny (model X.prog X.w) X.A (call (.ref C) us) (EP X pins σ Q) X.xe s := by
  obtain ⟨bm, N, nm, qn, bs, hdct, sn, sub, ab, col, dd, k0, k1, k2, k3, k5, mN, hC, hN, h0, hT⟩ := exc_obj I.kIn E.q
  have e5 := r.length
  obtain ⟨hp, g, dr, tk, os⟩ := s
  refine wpAny_call_exc_subT F.excBase_ArithmeticError hT hC hN h0 (fun h' e M => ?_) (by rw [sizeLine_eq]; omega)
  obtain ⟨t, ge, -, -⟩ := M.there
  have he : H e = none := I.hok.gone M.new
  exact ⟨.ref e, _, I.laidN (t' := tk) M.keeps M.new he (erO_ok ge ⟨rfl, rfl⟩ rfl), rfl, q e he⟩
theorem pe_exV {e : Expr} {es : List Expr} {t : TA} {p pos : Pos} (E : ExP X.K X.mg x C) (ha : PA X (e :: es) t) (hg : Gl X x := by rfl)
    (hdb : (x == ("__debug__" : Str)) = false := by decide) (he : starEach (e :: es) X.env = (false, eval e X.env) :: starEach es X.env := by rfl) (hpl : (backTo pos (starEach es X.env)).any (·.1) = false := by rfl) :
    PE X (.Call (.Name x p) (e :: es) [] pos) (tExV C t) := by
  refine ⟨fun pins s σ H Q I h => ?_⟩
  refine wpAny_Call_Name_kw (ld_glob I hg E.gC ?_ hdb)
  refine PySem.W.callWith_K (h₀ := X.base) I.ok.mod.kin E.kC (thn (ha.run pos pins s σ H _ I h) fun us s1 hh => ?_) he hpl
  obtain ⟨vs, H1, I1, r1, hl, q⟩ := hh
  exact ⟨I1.kIn, run_exV E I1 r1 hl q⟩
theorem pe_exV0 {p pos : Pos} (E : ExP X.K X.mg x C) (hg : Gl X x := by rfl) (hdb : (x == ("__debug__" : Str)) = false := by decide) : PE X (.Call (.Name x p) [] [] pos) (tExV C tNil) := by
  refine ⟨fun pins s σ H Q I h => ?_⟩
  refine wpAny_Call_Name_kw (ld_glob I hg E.gC ?_ hdb)
  refine PySem.W.callWith_KW0 (h₀ := X.base) I.ok.mod.kin E.kC rfl (thn ((pk_nil (X := X)).run pos pins s σ H _ I h) fun ws s2 ⟨zs, H2, I2, rz, hl, q⟩ => ⟨I2.kIn, ?_⟩) rfl
  exact run_exV (us := []) E I2 .nil (Nat.zero_le _) q
end
end E1

namespace E1
open PySem PySem.Spec PyProof.Rows L2
/-! ### a def of the text that is called by its name -/
def Cal (P : Program) (w : World) (K : PySem.W.Frag) (mg : Str → Option Value) (base : Heap) (k : Nat) (x : Str) (ps : List Str) (sp : Sp) : Prop :=
  ∃ (f : Addr) (fd : FuncData), mg x = some (.ref f) ∧ PySem.W.keepIn K (.ref f) = true ∧ Binds K fd ps [] ∧ FnOk P w K mg base CX0 k f fd ps sp
theorem pe_cal {X : Cx} {k j : Nat} {x : Str} {ps : List Str} {sp : Sp} {e : Expr} {es : List Expr} {t : TA} {p pos : Pos} (c : Cal X.prog X.w X.K X.mg X.base k x ps sp) (hr : Room j X.A) (ha : PA X (e :: es) t) (hle : k ≤ j := by decide) (hg : Gl X x := by rfl)
    (hdb : (x == ("__debug__" : Str)) = false := by decide) (he : starEach (e :: es) X.env = (false, eval e X.env) :: starEach es X.env := by rfl) (hpl : (backTo pos (starEach es X.env)).any (·.1) = false := by rfl) :
    PE X (.Call (.Name x p) (e :: es) [] pos) (tCall sp [] E0 t) := by
  obtain ⟨f, fd, h1, h2, h3, h4⟩ := c
  exact pe_call h4 (hr.mono hle) hg h1 h2 h3 .nil pass0 ha hdb he hpl
/-! ### heaps -/
def SameBut (a : Addr) (H H' : Hp) : Prop := ∀ b o, b ≠ a → H b = some o → H' b = some o
theorem SameBut.refl (a : Addr) (H : Hp) : SameBut a H H := fun _ _ _ h => h
theorem SameBut.trans {a : Addr} {H H1 H2 : Hp} (x : SameBut a H H1) (y : SameBut a H1 H2) : SameBut a H H2 := fun b o n h => y b o n (x b o n h)
theorem SameBut.of {a : Addr} {H H' : Hp} (s : Same H H') : SameBut a H H' := fun b o _ h => s b o h
theorem SameBut.upd {a : Addr} {H : Hp} {o : HO} : SameBut a H (upd H a o) := fun b _ n h => by
  rw [upd_ne n]
  exact h
theorem same_new {H : Hp} {p : Addr} {o : HO} (h : H p = none) : Same H (upd H p o) := fun b x e => by
  rw [upd_ne (ne_of_none e h)]
  exact e
theorem Same.tup {K : PySem.W.Frag} {H H' : Hp} {a : Addr} {xs : List V} (e : Same H H') (h : SqT K H a xs) : SqT K H' a xs := by
  rcases h with (h | ⟨o, h⟩) | h
  · exact .inl (.inl (e _ _ h))
  · exact .inl (.inr ⟨o, e _ _ h⟩)
  · exact .inr h
theorem a0 {α : Type} {x : α} {l : List α} : atI (x :: l) 0 = some x := atI_nat (j := 0) rfl
theorem a1 {α : Type} {x y : α} {l : List α} : atI (x :: y :: l) 1 = some y := atI_nat (j := 1) rfl
theorem a2 {α : Type} {x y z : α} {l : List α} : atI (x :: y :: z :: l) 2 = some z := atI_nat (j := 2) rfl
theorem toB {p : Prop} [Decidable p] (h : decide p = true) : p := of_decide_eq_true h
theorem toNB {p : Prop} [Decidable p] (h : ¬ decide p = true) : ¬ p := fun z => h (decide_eq_true z)
/-- a well: the digits left, a number that is mixed, how many were mixed (at most c) -/
def WellAt (H : Hp) (a : Addr) (c : Int) : Prop := ∃ x y z : Int, H a = some (.lst [.int x, .int y, .int z]) ∧ 0 ≤ y ∧ y < 2147483647 ∧ 0 ≤ z ∧ z ≤ c
theorem WellAt.mono {H : Hp} {a : Addr} {c d : Int} (h : WellAt H a c) (l : c ≤ d) : WellAt H a d := by
  obtain ⟨x, y, z, e, h1, h2, h3, h4⟩ := h
  exact ⟨x, y, z, e, h1, h2, h3, by omega⟩
theorem WellAt.same {H H' : Hp} {a : Addr} {c : Int} (h : WellAt H a c) (s : Same H H') : WellAt H' a c := by
  obtain ⟨x, y, z, e, h1, h2, h3, h4⟩ := h
  exact ⟨x, y, z, s _ _ e, h1, h2, h3, h4⟩
theorem WellAt.but {H H' : Hp} {a b : Addr} {c : Int} (h : WellAt H a c) (s : SameBut b H H') (n : a ≠ b) : WellAt H' a c := by
  obtain ⟨x, y, z, e, h1, h2, h3, h4⟩ := h
  exact ⟨x, y, z, s _ _ n e, h1, h2, h3, h4⟩
/-! ### promises of the law's helpers -/
def spCell (K : PySem.W.Frag) : Sp := fun vs H Q _ => ∃ (a : Addr) (ns : List Int) (k : Nat), vs = [.ref a, .int k] ∧ SqL K H a (ns.map V.int) ∧ Q (.int (ns.getD k 0)) H
def spWell : Sp := fun vs H Q _ => ∃ c : Int, vs = [.int c] ∧ ∀ p : Addr, H p = none → ∀ H', Same H H' → WellAt H' p 0 → Q (.ref p) H'
/-- a number from 0 to below m; the well has at most one more -/
def spDraw : Sp := fun vs H Q _ => ∃ (a : Addr) (c m : Int), vs = [.ref a, .int m] ∧ WellAt H a c ∧ c ≤ 1000000000 ∧ 0 < m ∧ m.natAbs < 2 ^ 9000 ∧
  ∀ (r : Int) (H' : Hp), 0 ≤ r → r < m → SameBut a H H' → (∀ b, H b = none → H' b = none) → WellAt H' a (c + 1) → Q (.int r) H'
def topS (i : Nat) : Stmt := PySem.Challenge.pw_echobound_k10_refusals_made.main.body.getD i (.Pass ⟨0, 0, 0, 0⟩)
abbrev s__law_cell_at : Stmt := topS 21
abbrev s__law_well : Stmt := topS 22
abbrev s__law_draw : Stmt := topS 23
abbrev s__law_marks : Stmt := topS 24
abbrev s__law_made : Stmt := topS 25
abbrev s__law_fields : Stmt := topS 26
abbrev s_law : Stmt := topS 27
section
variable {P : Program} {w : World} {K : PySem.W.Frag} {mg : Str → Option Value} {base : Heap}
theorem sc__law_cell_at : FnScope ["_law_script", "_law_k"] ["_law_script", "_law_k"] (defScope s__law_cell_at) := ⟨rfl, rfl, rfl, by decide +kernel, rfl, by decide +kernel, by decide +kernel⟩
theorem sc__law_well : FnScope ["_law_cell"] ["_law_cell"] (defScope s__law_well) := ⟨rfl, rfl, rfl, by decide +kernel, rfl, by decide +kernel, by decide +kernel⟩
theorem sc__law_draw : FnScope ["_law_well_here", "_law_much", "_law_found", "_law_number"] ["_law_well_here", "_law_much"] (defScope s__law_draw) := ⟨rfl, rfl, rfl, by decide +kernel, rfl, by decide +kernel, by decide +kernel⟩
theorem ok_cell {f : Addr} {fd : FuncData} {k : Nat} (F : Fun K "_law_cell_at" "_law_cell_at" s__law_cell_at f fd) (zl : mg "len" = none) : FnOk P w K mg base CX0 (k + 1) f fd ["_law_script", "_law_k"] (spCell K) := by
  refine F.ok sc__law_cell_at (fun vs H Q E h => ?_) (fun cdv A outer s H vs Q E hr h => ?_)
  · obtain ⟨a, ns, k, rfl, _⟩ := h
    rfl
  · obtain ⟨a, ns, k, rfl, hS, q⟩ := h
    refine ⟨_, (pss_cons (ps_if (pt_cmpR op_lt (pv 1) (pe_callB call_len_seq (by rfl) zl PySem.boot_len (pa_cons (pv 0) pa_nil)) (nomark _)) (pss_one (ps_ret (pe_ix ix_list (pv 0) (pv 1) (fun _ _ => rfl)))) pss_nil)
      (pss_one (ps_ret pe_int))), ?_⟩
    refine ⟨_, rfl, _, rfl, a, _, rfl, .inl hS, _, _, rfl, rfl, _, rfl, ite2 (fun c => ?_) (fun c => ?_)⟩
    · have hk : k < ns.length := by
        have := toB c
        rw [List.length_map] at this
        omega
      refine ⟨_, rfl, _, rfl, a, _, k, .int (ns.getD k 0), rfl, rfl, hS, atI_nat ?_, q⟩
      rw [List.getElem?_map, List.getElem?_eq_getElem hk, List.getD_eq_getElem?_getD, List.getElem?_eq_getElem hk]
      rfl
    · have hk : ¬ k < ns.length := fun z => by
        have := toNB c
        rw [List.length_map] at this
        omega
      have e : ns.getD k 0 = 0 := by
        rw [List.getD_eq_getElem?_getD, List.getElem?_eq_none (by omega)]
        rfl
      rw [e] at q
      exact q
theorem ok_well {f : Addr} {fd : FuncData} {k : Nat} (F : Fun K "_law_well" "_law_well" s__law_well f fd) (zi : mg "int" = none) : FnOk P w K mg base CX0 (k + 1) f fd ["_law_cell"] spWell := by
  refine F.ok sc__law_well (fun vs H Q E h => ?_) (fun cdv A outer s H vs Q E hr h => ?_)
  · obtain ⟨c, rfl, _⟩ := h
    rfl
  · obtain ⟨c, rfl, q⟩ := h
    refine ⟨_, (pss_one (ps_ret (pe_lst (pa_cons (pe_op op_mul (pv 0) (pe_callTy call_int1 (by rfl) zi (by decide +kernel) (pa_cons (pe_cmpR op_ge (pv 0) (pe_op op_pow pe_int pe_int) (nomark _)) pa_nil))) (pa_cons (pe_op op_mod (pv 0) pe_int) (pa_cons pe_int pa_nil)))))), ?_⟩
    refine ⟨_, rfl, _, rfl, _, _, rfl, rfl, ⟨by decide, by decide, by decide⟩, _, _, rfl, rfl, .inr ⟨_, rfl, _, _, rfl, rfl, .inr ?_, ?_⟩⟩
    · split <;> decide
    · refine ⟨_, rfl, _, _, rfl, rfl, (by show (0 : Int) < 2147483647; decide), (by show 3 ≤ sizeLine; decide), fun p hp => ?_⟩
      exact q p hp _ (same_new hp) ⟨_, _, _, upd_same, Int.emod_nonneg _ (by decide), Int.emod_lt_of_pos _ (by decide), Int.le_refl _, Int.le_refl _⟩
theorem ok_draw {f : Addr} {fd : FuncData} {k : Nat} (F : Fun K "_law_draw" "_law_draw" s__law_draw f fd) : FnOk P w K mg base CX0 (k + 1) f fd ["_law_well_here", "_law_much"] spDraw := by
  refine F.ok sc__law_draw (fun vs H Q E h => ?_) (fun cdv A outer s H vs Q E hr h => ?_)
  · obtain ⟨a, c, m, rfl, _⟩ := h
    rfl
  · obtain ⟨a, c, m, rfl, ⟨x, y, z, hw, y0, y1, z0, z1⟩, hc, m0, m1, q⟩ := h
    have fr : ∀ o b, H b = none → (upd H a o) b = none := fun o b hb => by
      rw [upd_ne (fun e => by rw [e, hw] at hb; cases hb)]
      exact hb
    refine ⟨_, (pss_cons (ps_if (pt_cmpR op_gt (pe_ix ix_list (pv 0) pe_int (fun _ _ => rfl)) pe_int (nomark _)) (pss_cons (ps_set (i := 2) sc__law_draw.nd rfl (.inl rfl) (pe_op op_mod (pe_ix ix_list (pv 0) pe_int (fun _ _ => rfl)) (pv 1)))
      (pss_cons (ps_asg (pe_op op_fdivW (pe_ix ix_list (pv 0) pe_int (fun _ _ => rfl)) (pv 1)) (pg_sub (pv 0) pe_int set_list))
      (pss_one (ps_ret (pv 2))))) pss_nil)
      (pss_cons (ps_asg (pe_op op_add (pe_ix ix_list (pv 0) pe_int (fun _ _ => rfl)) pe_int) (pg_sub (pv 0) pe_int set_list))
      (pss_cons (ps_set (i := 3) sc__law_draw.nd rfl (.inl rfl) (pe_op op_mod (pe_op op_pow (pe_op op_add (pe_op op_add (pe_ix ix_list (pv 0) pe_int (fun _ _ => rfl)) (pe_op op_mul pe_int (pe_ix ix_list (pv 0) pe_int (fun _ _ => rfl)))) pe_int) pe_int) pe_int))
      (pss_cons (ps_set (i := 3) sc__law_draw.nd rfl (.inl rfl) (pe_op op_mod (pe_op op_mul (pv 3) (pe_op op_add (pe_op op_fdiv (pv 3) pe_int) pe_int)) pe_int))
      (pss_one (ps_ret (pe_op op_mod (pe_op op_mod (pe_op op_mul (pv 3) (pe_op op_add (pe_op op_fdiv (pv 3) pe_int) pe_int)) pe_int) (pv 1)))))))), ?_⟩
    refine ⟨_, rfl, a, _, 0, .int x, rfl, rfl, SqL.of hw, a0, x, 0, rfl, rfl, _, rfl, ite2 (fun c => ?_) (fun c => ?_)⟩
    · refine ⟨_, rfl, a, _, 0, .int x, rfl, rfl, SqL.of hw, a0, _, rfl, x, m, rfl, rfl, m0, ?_⟩
      refine ⟨_, rfl, a, _, 0, .int x, rfl, rfl, SqL.of hw, a0, _, rfl, x, m, rfl, rfl, wide_div m0 m1 (by decide) (Nat.le_refl _), _, rfl, a, _, 0, 0, rfl, rfl, hw, rfl, ?_⟩
      refine ⟨_, rfl, q _ _ (Int.emod_nonneg _ (by omega)) (Int.emod_lt_of_pos _ m0) SameBut.upd (fr _) ⟨_, _, _, upd_same, y0, y1, z0, by omega⟩⟩
    · refine ⟨_, rfl, a, _, 2, .int z, rfl, rfl, SqL.of hw, a2, z, 1, rfl, rfl, _, rfl, a, _, 2, 2, rfl, rfl, hw, rfl, ?_⟩
      have hw2 : (upd H a (.lst [V.int x, V.int y, V.int (z + 1)])) a = some (.lst [V.int x, V.int y, V.int (z + 1)]) := upd_same
      have n5 : 0 ≤ y + 7919 * (z + 1) + 1 ∧ y + 7919 * (z + 1) + 1 < 18446744073709551616 := by omega
      refine ⟨_, rfl, a, _, 1, .int y, rfl, rfl, SqL.of hw2, a1, _, rfl, a, _, 2, .int (z + 1), rfl, rfl, SqL.of hw2, a2, _, _, rfl, rfl, .inl ⟨by decide, by decide⟩, _, _, rfl, rfl, _, _, rfl, rfl, _, _, rfl, rfl, ⟨by decide, by decide, ?_⟩, _, _, rfl, rfl, (by show (0 : Int) < 2147483647; decide), ?_⟩
      · show (y + 7919 * (z + 1) + 1).natAbs < 18446744073709551616
        omega
      · generalize hn : (y + 7919 * (z + 1) + 1) ^ (5 : Int).toNat % 2147483647 = n
        have n0 : 0 ≤ n := by rw [← hn]; exact Int.emod_nonneg _ (by decide)
        have n1 : n < 2147483647 := by rw [← hn]; exact Int.emod_lt_of_pos _ (by decide)
        refine ⟨_, rfl, _, rfl, _, _, rfl, rfl, ⟨by decide, by decide⟩, _, _, rfl, rfl, _, _, rfl, rfl, .inl ⟨by omega, by omega⟩, _, _, rfl, rfl, (by show (0 : Int) < 2147483629; decide), ?_⟩
        generalize hm : n * (n / 1009 + 69621) % 2147483629 = u
        have u0 : 0 ≤ u := by rw [← hm]; exact Int.emod_nonneg _ (by decide)
        have u1 : u < 2147483629 := by rw [← hm]; exact Int.emod_lt_of_pos _ (by decide)
        refine ⟨_, rfl, _, rfl, _, _, rfl, rfl, ⟨by decide, by decide⟩, _, _, rfl, rfl, _, _, rfl, rfl, .inl ⟨by omega, by omega⟩, _, _, rfl, rfl, (by show (0 : Int) < 2147483587; decide), _, rfl, _, _, rfl, rfl, m0, ?_⟩
        exact q _ _ (Int.emod_nonneg _ (by omega)) (Int.emod_lt_of_pos _ m0) SameBut.upd (fr _) ⟨_, _, _, upd_same, y0, y1, by omega, by omega⟩
end
end E1

namespace E1
open PySem PySem.Spec PyProof.Rows L2
/-- the value of its one default -/
def dflI (K : PySem.W.Frag) (p : Value → Bool) (fI : Addr) : Bool := match K.lookup fI with
  | some ⟨_, _, .func fd, _⟩ => (match fd.defaults with
    | .ref T => (match K.lookup T with
      | some ⟨_, _, .seq its _, _⟩ => (match its.toList with
        | [v] => p v
        | _ => false)
      | _ => false)
    | _ => false)
  | _ => false
def isNought (v : Value) : Bool := match v with
  | .int i _ => decide (i = 0)
  | _ => false
def isNone (v : Value) : Bool := match v with
  | .none => true
  | _ => false
def kitAll (K : PySem.W.Frag) (cs : List Addr) : Bool := (List.range 18).all fun i => (List.range 18).all fun j => decide (PySem.W.kitOne K (.ref (cs.getD i 0)) (.ref (cs.getD j 0)) = some (decide (i = j)))
def kitC (K : PySem.W.Frag) (cs : List Addr) (v : Value) (b : Bool) : Bool := (List.range 18).all fun i => decide (PySem.W.kitOne K (.ref (cs.getD i 0)) v = some b)
def kitA (K : PySem.W.Frag) (cs : List Addr) (vs : List Value) (b : Bool) : Bool := (List.range 18).all fun i => decide (PySem.W.kitAny K (.ref (cs.getD i 0)) vs = some b)
theorem kitAll_ok {K : PySem.W.Frag} {cs : List Addr} (h : kitAll K cs = true) {i j : Nat} (hi : i < 18) (hj : j < 18) : PySem.W.kitOne K (.ref (cs.getD i 0)) (.ref (cs.getD j 0)) = some (decide (i = j)) :=
  of_decide_eq_true (List.all_eq_true.mp (List.all_eq_true.mp h i (List.mem_range.mpr hi)) j (List.mem_range.mpr hj))
theorem kitC_ok {K : PySem.W.Frag} {cs : List Addr} {v : Value} {b : Bool} (h : kitC K cs v b = true) {i : Nat} (hi : i < 18) : PySem.W.kitOne K (.ref (cs.getD i 0)) v = some b :=
  of_decide_eq_true (List.all_eq_true.mp h i (List.mem_range.mpr hi))
theorem kitA_ok {K : PySem.W.Frag} {cs : List Addr} {vs : List Value} {b : Bool} (h : kitA K cs vs b = true) {i : Nat} (hi : i < 18) : PySem.W.kitAny K (.ref (cs.getD i 0)) vs = some b :=
  of_decide_eq_true (List.all_eq_true.mp h i (List.mem_range.mpr hi))
end E1

namespace E1
open PySem PySem.Spec PyProof.Rows L2
abbrev s_BadForm___init__ : Stmt := inClass (topS 10) 0
abbrev s_Unfit___init__ : Stmt := inClass (topS 11) 0
abbrev s_TooSlow___init__ : Stmt := inClass (topS 13) 0
abbrev s_NoTurn___init__ : Stmt := inClass (topS 15) 0
abbrev s_TooMany___init__ : Stmt := inClass (topS 16) 0
abbrev s_NotFree___init__ : Stmt := inClass (topS 17) 0
abbrev s_NoName___init__ : Stmt := inClass (topS 18) 0
abbrev s_NoText___init__ : Stmt := inClass (topS 19) 0
abbrev s_NotStill___init__ : Stmt := inClass (topS 12) 0
abbrev s_BadNet___init__ : Stmt := inClass (topS 14) 0

end E1

namespace E1
open PySem PySem.Spec PyProof.Rows L2

/-! ### error classes over the small head -/
abbrev IniV : Type := Option (Str × Str × Arguments × FuncBody × Scope × Addr × List Str × Addr)
def iniA (K : PySem.W.Frag) (x : Str) : Addr := He.ma K (He.ga K x) "__init__"
def iniF (K : PySem.W.Frag) (x : Str) : Option FuncData := match K.lookup (iniA K x) with
  | some ⟨_, _, .func fd, _⟩ => some fd
  | _ => none
def iniW (K : PySem.W.Frag) (x : Str) : IniV := (iniF K x).map fun fd => (fd.name, fd.qualname, fd.params, fd.body, fd.scope, fd.globals, fd.closure.map (·.1), fd.builtins)
structure ErrD where
  x : Str
  qual : Str
  params : Arguments
  body : List Stmt
  scope : Scope
  one : Bool
def ErrD.val (d : ErrD) : IniV := some ("__init__", d.qual, d.params, .stmts d.body, d.scope, mainGlobals, ["__class__"], builtinsNs)
/-- one default, or none -/
def iniD (K : PySem.W.Frag) (one : Bool) (v : Value) : Bool := match one, v with
  | false, v => decide (v = .none)
  | true, .ref T => (match K.lookup T with
    | some ⟨_, _, .seq its _, _⟩ => decide (its.size = 1)
    | _ => false)
  | true, _ => false
def iniS (v : Option Value) : Bool := match v with
  | some (.str f _) => decide (f = ("/claim/cut.py" : Str))
  | _ => false
def iniC (K : PySem.W.Frag) (qual : Str) (v : Value) : Bool := match v with
  | .ref c => PySem.W.codeIn K (.ref c) qual && (match K.lookup c with
    | some ⟨_, _, .fields vs, _⟩ => iniS (vs[2]?)
    | _ => false)
  | _ => false
def iniL (K : PySem.W.Frag) (x : Str) (l : List (Str × Addr)) : Bool := match l with
  | [(_, c)] => (match K.lookup c with
    | some ⟨_, _, .cell (some v), _⟩ => decide (v = .ref (He.ga K x))
    | _ => false)
  | _ => false
def ErrD.ok (K : PySem.W.Frag) (d : ErrD) : Bool := match iniF K d.x with
  | some fd => iniD K d.one fd.defaults && (iniC K d.qual fd.code && iniL K d.x fd.closure)
  | none => false
structure IniHas (prog : Program) (K : PySem.W.Frag) (d : ErrD) (cc : Addr) (dV : Value) : Prop where
  fn : ∃ (oc : Value) (od : Option Addr) (kV doc pm : Value) (an : Option Addr) (cda : Addr) (ct : Value) (osl : Array (Option Value)),
    K.lookup (iniA K d.x) = some ⟨oc, od, .func (PySem.W.ksFn "__init__" d.qual d.params d.body d.scope dV kV doc pm an (.ref cda) ct cc), osl⟩ ∧ PySem.W.codeIn K (.ref cda) d.qual = true ∧
    ∃ (ccl : Value) (cdd : Option Addr) (vs : Array Value) (ccs : Array (Option Value)) (file : Str) (tf : Tok), K.lookup cda = some ⟨ccl, cdd, .fields vs, ccs⟩ ∧ vs[2]? = some (.str file tf) ∧ ((prog.main.file : Str) == file) = true
  cell : ∃ (cl : Value) (cld : Option Addr) (csl : Array (Option Value)), K.lookup cc = some ⟨cl, cld, .cell (some (.ref (He.ga K d.x))), csl⟩
  dfl : iniD K d.one dV = true
theorem iniC_ok {K : PySem.W.Frag} {qual : Str} {v : Value} (h : iniC K qual v = true) : ∃ c, v = .ref c ∧ PySem.W.codeIn K (.ref c) qual = true ∧ ∃ (ccl : Value) (cdd : Option Addr) (vs : Array Value) (ccs : Array (Option Value)) (tf : Tok), K.lookup c = some ⟨ccl, cdd, .fields vs, ccs⟩ ∧ vs[2]? = some (.str "/claim/cut.py" tf) := by
  cases v with
  | ref c =>
    obtain ⟨h1, h2⟩ := He.ba (show (_ && _) = true from h)
    refine ⟨c, rfl, h1, ?_⟩
    cases e : K.lookup c with
    | none =>
      rw [e] at h2
      cases h2
    | some o =>
      rw [e] at h2
      obtain ⟨oc, od, dt, sl⟩ := o
      cases dt with
      | fields vs =>
        replace h2 : iniS (vs[2]?) = true := h2
        cases e2 : vs[2]? with
        | none =>
          rw [e2] at h2
          cases h2
        | some u =>
          rw [e2] at h2
          cases u with
          | str f tf =>
            have e3 : f = ("/claim/cut.py" : Str) := of_decide_eq_true h2
            subst e3
            exact ⟨_, _, _, _, _, rfl, e2⟩
          | _ => cases h2
      | _ => cases h2
  | _ => cases h
theorem iniL_ok {K : PySem.W.Frag} {x : Str} {l : List (Str × Addr)} (h : iniL K x l = true) (hl : l.map (·.1) = [("__class__" : Str)]) : ∃ c, l = [(("__class__" : Str), c)] ∧ ∃ (cl : Value) (cld : Option Addr) (csl : Array (Option Value)), K.lookup c = some ⟨cl, cld, .cell (some (.ref (He.ga K x))), csl⟩ := by
  match l, hl, h with
  | [(n, c)], hl, h =>
    cases hl
    refine ⟨c, rfl, ?_⟩
    replace h : (match K.lookup c with
      | some ⟨_, _, .cell (some v), _⟩ => decide (v = .ref (He.ga K x))
      | _ => false) = true := h
    cases e : K.lookup c with
    | none =>
      rw [e] at h
      cases h
    | some o =>
      rw [e] at h
      obtain ⟨oc, od, dt, sl⟩ := o
      cases dt with
      | cell v =>
        cases v with
        | none => cases h
        | some v =>
          have e3 : v = .ref (He.ga K x) := of_decide_eq_true h
          subst e3
          exact ⟨_, _, _, rfl⟩
      | _ => cases h
theorem errD_ok {prog : Program} {K : PySem.W.Frag} {d : ErrD} (hf : (prog.main.file : Str) = "/claim/cut.py") (e : iniW K d.x = d.val) (c : d.ok K = true) : ∃ cc dV, IniHas prog K d cc dV := by
  unfold iniW at e
  unfold ErrD.ok at c
  cases q : iniF K d.x with
  | none =>
    rw [q] at c
    cases c
  | some fd =>
    rw [q] at c e
    obtain ⟨c1, c2⟩ := He.ba c
    obtain ⟨c3, c4⟩ := He.ba c2
    have lk : ∃ oc od sl, K.lookup (iniA K d.x) = some ⟨oc, od, .func fd, sl⟩ := by
      unfold iniF at q
      cases e1 : K.lookup (iniA K d.x) with
      | none =>
        rw [e1] at q
        cases q
      | some o =>
        rw [e1] at q
        obtain ⟨oc, od, dt, sl⟩ := o
        cases dt with
        | func fd2 =>
          cases q
          exact ⟨_, _, _, rfl⟩
        | _ => cases q
    obtain ⟨n1, n2, n3, n4, n5, n6, n7, n8, n9, n10, n11, n12, n13, n14, n15⟩ := fd
    have e2 : (some (n1, n2, n3, n4, n5, n6, n7.map (·.1), n15) : IniV) = (some (("__init__" : Str), d.qual, d.params, FuncBody.stmts d.body, d.scope, mainGlobals, [("__class__" : Str)], builtinsNs) : IniV) := e
    simp only [Option.some.injEq, Prod.mk.injEq] at e2
    obtain ⟨h1, h2, h3, h4, h5, h6, h7, h8⟩ := e2
    subst h1 h2 h3 h4 h5 h6 h8
    obtain ⟨cda, ec, k1, ccl, cdd, vs, ccs, tf, k2, k3⟩ := iniC_ok c3
    obtain ⟨cc, el, kl⟩ := iniL_ok c4 h7
    replace ec : n13 = .ref cda := ec
    replace el : n7 = [(("__class__" : Str), cc)] := el
    subst ec el
    obtain ⟨oc, od, sl, lk⟩ := lk
    exact ⟨cc, n8, ⟨oc, od, n9, n10, n11, n12, cda, n14, sl, lk, k1, ccl, cdd, vs, ccs, _, tf, k2, k3, by rw [hf]; exact beq_self_eq_true _⟩, kl, c1⟩
theorem iniD_one {K : PySem.W.Frag} {v : Value} (h : iniD K true v = true) : ∃ T, v = .ref T ∧ ∃ (to : Value) (td : Option Addr) (its : Array Value) (tn : Nat) (ts : Array (Option Value)), K.lookup T = some ⟨to, td, .seq its tn, ts⟩ ∧ its.size = 1 := by
  cases v with
  | ref T =>
    refine ⟨T, rfl, ?_⟩
    replace h : (match K.lookup T with
      | some ⟨_, _, .seq its _, _⟩ => decide (its.size = 1)
      | _ => false) = true := h
    cases e : K.lookup T with
    | none =>
      rw [e] at h
      cases h
    | some o =>
      rw [e] at h
      obtain ⟨oc, od, dt, sl⟩ := o
      cases dt with
      | seq its n => exact ⟨_, _, _, _, _, rfl, of_decide_eq_true h⟩
      | _ => cases h
  | _ => cases h
end E1

namespace E1
open PySem PySem.Spec PyProof.Rows L2

theorem Vals.rev : ∀ {xs : List V} {us : List Value}, Vals xs us → Vals xs.reverse us.reverse
  | _, _, .nil => .nil
  | _, _, .cons r t => by
    rw [List.reverse_cons, List.reverse_cons]
    exact Vals.append (Vals.rev t) (.cons r .nil)
section
variable {P : Program} {w : World} {K : PySem.W.Frag} {mg : Str → Option Value} {base : Heap} {x : Str} {st : Stmt} {f : Addr} {fd : FuncData} {ps ks : List Str} {k n : Nat} {sp : Sp}
/-- a def without defaults: its arguments by keywords alone or behind others -/
theorem Fun.kbn {qual : Str} (F : Fun K x qual st f fd) {g : List Value → List Value → List Value} {gV : List V → List V → List V} (hrel : ∀ {vs : List V} {us : List Value} {zs : List V} {ws : List Value}, Vals vs us → Vals zs ws → Vals (gV vs zs) (g us ws))
    (h : ∀ (kV doc pm : Value) (an : Option Addr) (cdv ct : Value) (us ws : List Value), us.length = n → ws.length = ks.length → bindArgs (PySem.W.fnOf x qual (defArgs st) (defBody st) (defScope st) .none kV doc pm an cdv ct) ⟨us, ks.zip ws⟩ = pure (ps.zip (g us ws))) : KBn K fd ps n ks g gV := by
  rcases F.ex with ⟨_, _, v1, v2, v3, v4, v5, v6, _, same, _, _⟩
  subst same
  exact ⟨fun s us ws _ l1 l2 => .of_eq (h v1 v2 v3 v4 v5 v6 us ws l1 l2), hrel⟩
/-- a def with defaults, all arguments given -/
theorem FunD.kbn {qual : Str} {params : Arguments} {body : List Stmt} {scope : Scope} {dvs : List V} {kws : List (Str × V)} (F : FunD K x qual params body scope dvs kws f fd) (hd : dvs ≠ []) {g : List Value → List Value → List Value} {gV : List V → List V → List V} (hrel : ∀ {vs : List V} {us : List Value} {zs : List V} {ws : List Value}, Vals vs us → Vals zs ws → Vals (gV vs zs) (g us ws))
    (h : ∀ (T : Addr) (kV doc pm : Value) (an : Option Addr) (cdv ct : Value) (us ws its : List Value), us.length = n → ws.length = ks.length → its.length = dvs.length → ∃ k, bindArgs (PySem.W.fnOf x qual params body scope (.ref T) kV doc pm an cdv ct) ⟨us, ks.zip ws⟩ = seqItems? (.ref T) >>= k ∧ k (some its.toArray) = pure (ps.zip (g us ws))) : KBn K fd ps n ks g gV := by
  rcases F.ex with ⟨_, _, _, v1, v2, v3, v4, v5, v6, _, same, _, _, bare | given, _⟩
  · exact absurd bare.1 hd
  · rcases given with ⟨_, T, _, its, _, dv, at_, it, rel⟩
    subst same dv
    refine ⟨fun s us ws inn l1 l2 => BindsTo.of_looks fun M => ?_, hrel⟩
    rcases h T v1 v2 v3 v4 v5 v6 us ws its l1 l2 rel.length.symm with ⟨go, b1, b2⟩
    rw [b1]
    exact looks_items inn at_ it (.of_pure b2)
end

theorem fun_of {K : PySem.W.Frag} {x qual : Str} {st : Stmt} {f : Addr} {fd : FuncData} (F : FunD K x qual (defArgs st) (defBody st) (defScope st) [] [] f fd) : Fun K x qual st f fd := by
  obtain ⟨oc, od, dV, kV, doc, pm, an, cdv, ct, osl, e, lk, hcd, hd, _⟩ := F.ex
  rcases hd with ⟨_, rfl⟩ | ⟨n, _⟩
  · exact ⟨⟨oc, od, kV, doc, pm, an, cdv, ct, osl, e, lk, hcd⟩, F.kp⟩
  · exact absurd rfl n
theorem ex_at {l : List Bool} (h : (l.all id) = true) {i : Nat} {b : Bool} (e : l[i]? = some b) : b = true := List.all_eq_true.mp h b (List.mem_of_getElem? e)
theorem val_int {K : PySem.W.Frag} {a : Addr} {kvs : List (Str × He.Dv)} (h : He.valsB K a kvs = true) {i : Nat} {k : Str} {v : Int} (e : kvs[i]? = some (k, .int v)) : ∃ t, PySem.W.nsIn K a k = some (some (.int v t)) := by
  obtain ⟨u, e1, r⟩ := He.valsB_ok h (List.mem_of_getElem? e)
  obtain ⟨t, rfl⟩ := r
  exact ⟨t, e1⟩
/-- the head's facts, of these addresses -/
abbrev AlY : Type := He.AlT × Bool × List IniV
def obsY (as : List Addr) (fa : List He.Fa) (fn : List He.DefD) (ts : List He.Tab) (ex : PySem.W.Frag → Bool) (er : List ErrD) (g : Addr → Option Obj) : AlY := (He.obsT fa fn ts (He.frG g as), ex (He.frG g as), er.map fun d => iniW (He.frG g as) d.x)
structure SaysY (fa : List He.Fa) (fn : List He.DefD) (ts : List He.Tab) (ex : PySem.W.Frag → Bool) (er : List ErrD) (w : World) (K : PySem.W.Frag) : Prop where
  t : He.SaysT fa fn ts w K
  more : ex K = true
  ini : (er.map fun d => iniW K d.x) = er.map ErrD.val
def hookY (as : List Addr) (fa : List He.Fa) (fn : List He.DefD) (ts : List He.Tab) (ex : PySem.W.Frag → Bool) (er : List ErrD) : PySem.W.Hook where
  α := AlY
  obs := fun s => obsY as fa fn ts ex er s.heap.get?
  val := fun w => (He.valT fn ts w, true, er.map ErrD.val)
  says := fun w h => ∃ K : PySem.W.Frag, K.In h ∧ SaysY fa fn ts ex er w K
  of := fun _ _ e => ⟨_, He.frG_in, congrArg (fun z : AlY => z.1) e, congrArg (fun z : AlY => z.2.1) e, congrArg (fun z : AlY => z.2.2) e⟩
  keeps := fun _ _ _ ⟨K, hK, c⟩ k => ⟨K, PySem.W.Frag.In.keeps hK k, c⟩
theorem obsY_eq {as : List Addr} {fa : List He.Fa} {fn : List He.DefD} {ts : List He.Tab} {ex : PySem.W.Frag → Bool} {er : List ErrD} {g : Addr → Option Obj} {s : Shared} (h : ∀ a, g a = s.heap.get? a) : obsY as fa fn ts ex er g = (hookY as fa fn ts ex er).obs s := by
  have e : g = s.heap.get? := funext h
  rw [e]
  rfl
theorem ini_at {K : PySem.W.Frag} {er : List ErrD} (h : (er.map fun d => iniW K d.x) = er.map ErrD.val) {i : Nat} {d : ErrD} (e : er[i]? = some d) : iniW K d.x = d.val := by
  have h2 : (er.map fun d => iniW K d.x)[i]? = (er.map ErrD.val)[i]? := by rw [h]
  rw [List.getElem?_map, List.getElem?_map, e] at h2
  exact Option.some.inj h2
def dd__law_cell_at : He.DefD := ⟨("_law_cell_at", none), "_law_cell_at", "_law_cell_at", defArgs s__law_cell_at, defBody s__law_cell_at, defScope s__law_cell_at, [], []⟩
def dd__law_well : He.DefD := ⟨("_law_well", none), "_law_well", "_law_well", defArgs s__law_well, defBody s__law_well, defScope s__law_well, [], []⟩
def dd__law_draw : He.DefD := ⟨("_law_draw", none), "_law_draw", "_law_draw", defArgs s__law_draw, defBody s__law_draw, defScope s__law_draw, [], []⟩
def dd__law_marks : He.DefD := ⟨("_law_marks", none), "_law_marks", "_law_marks", defArgs s__law_marks, defBody s__law_marks, defScope s__law_marks, [], []⟩
def dd__law_made : He.DefD := ⟨("_law_made", none), "_law_made", "_law_made", defArgs s__law_made, defBody s__law_made, defScope s__law_made, [], []⟩
def dd__law_fields : He.DefD := ⟨("_law_fields", none), "_law_fields", "_law_fields", defArgs s__law_fields, defBody s__law_fields, defScope s__law_fields, [], []⟩
def dd_law : He.DefD := ⟨("law", none), "law", "law", defArgs s_law, defBody s_law, defScope s_law, [], []⟩
def ed_Cx1 : ErrD := ⟨"BadForm", "BadForm.__init__", defArgs s_BadForm___init__, defBody s_BadForm___init__, defScope s_BadForm___init__, false⟩
def ed_Cx2 : ErrD := ⟨"Unfit", "Unfit.__init__", defArgs s_Unfit___init__, defBody s_Unfit___init__, defScope s_Unfit___init__, true⟩
def ed_Cx5 : ErrD := ⟨"NotStill", "NotStill.__init__", defArgs s_NotStill___init__, defBody s_NotStill___init__, defScope s_NotStill___init__, false⟩
def ed_Cx6 : ErrD := ⟨"TooSlow", "TooSlow.__init__", defArgs s_TooSlow___init__, defBody s_TooSlow___init__, defScope s_TooSlow___init__, false⟩
def ed_Cx7 : ErrD := ⟨"BadNet", "BadNet.__init__", defArgs s_BadNet___init__, defBody s_BadNet___init__, defScope s_BadNet___init__, true⟩
def ed_Cx9 : ErrD := ⟨"NoTurn", "NoTurn.__init__", defArgs s_NoTurn___init__, defBody s_NoTurn___init__, defScope s_NoTurn___init__, false⟩
def ed_Cx11 : ErrD := ⟨"TooMany", "TooMany.__init__", defArgs s_TooMany___init__, defBody s_TooMany___init__, defScope s_TooMany___init__, false⟩
def ed_Cx13 : ErrD := ⟨"NotFree", "NotFree.__init__", defArgs s_NotFree___init__, defBody s_NotFree___init__, defScope s_NotFree___init__, false⟩
def ed_Cx15 : ErrD := ⟨"NoText", "NoText.__init__", defArgs s_NoText___init__, defBody s_NoText___init__, defScope s_NoText___init__, true⟩
def ed_Cx17 : ErrD := ⟨"NoName", "NoName.__init__", defArgs s_NoName___init__, defBody s_NoName___init__, defScope s_NoName___init__, false⟩
def FN_0 : List He.DefD := [dd__law_cell_at, dd__law_well, dd__law_draw, dd__law_marks, dd__law_made, dd__law_fields, dd_law]
def FN : List He.DefD := FN_0
def FA_0 : List He.Fa := [.glo "_law_cell_at", .glo "_law_well", .glo "_law_draw", .glo "_law_marks", .glo "_law_made", .glo "_law_fields", .glo "law", .free "len", .free "int", .free "isinstance", .free "enumerate", .free "range", .free "ValueError", .free "KeyError", .glo "EchoError", .glo "NoFraction", .glo "BadForm", .glo "Unfit", .glo "NoMatrix", .glo "NoSeries"]
def FA_1 : List He.Fa := [.glo "NotStill", .glo "TooSlow", .glo "BadNet", .glo "BadState", .glo "NoTurn", .glo "NoWords", .glo "TooMany", .glo "NoState", .glo "NotFree", .glo "NoChoice", .glo "NoText", .glo "NoLine", .glo "NoName"]
def FA : List He.Fa := FA_0 ++ (FA_1)
def TS_0 : List He.Tab := []
def TS : List He.Tab := TS_0
def EXL_0 (K : PySem.W.Frag) : List Bool := [decide (PySem.W.findIn K (.ref (He.ga K "EchoError")) "__getattribute__" = some (some (.builtin "BaseException.__getattribute__"))), decide (PySem.W.findIn K (.ref (He.ga K "EchoError")) "__getattr__" = some none), decide (PySem.W.subIn K (.ref (He.ga K "EchoError")) (.type "BaseException") = some true), decide (PySem.W.hasDictIn K (He.ga K "EchoError") = true), decide (PySem.W.findIn K (.ref (He.ga K "EchoError")) "__class__" = some (some (.builtin "object.__class__"))), decide (PySem.W.specialIn K (.builtin "object.__class__") "__get__" = some (some (.builtin "getset_descriptor.__get__"))), decide (PySem.W.takesIn K (.builtin "object.__class__") = some true), decide (PySem.W.mroIn K (He.ga K "EchoError") (.type "object") = some true), decide (PySem.W.excIn K (He.ga K "EchoError") PySem.ErrX.bmA "ArithmeticError.__new__" = true), decide (PySem.W.keepIn K (.ref (He.ga K "EchoError")) = true), decide (PySem.W.findIn K (.ref (He.ga K "NoFraction")) "__getattribute__" = some (some (.builtin "BaseException.__getattribute__"))), decide (PySem.W.findIn K (.ref (He.ga K "NoFraction")) "__getattr__" = some none), decide (PySem.W.subIn K (.ref (He.ga K "NoFraction")) (.type "BaseException") = some true), decide (PySem.W.hasDictIn K (He.ga K "NoFraction") = true), decide (PySem.W.findIn K (.ref (He.ga K "NoFraction")) "__class__" = some (some (.builtin "object.__class__"))), decide (PySem.W.specialIn K (.builtin "object.__class__") "__get__" = some (some (.builtin "getset_descriptor.__get__"))), decide (PySem.W.takesIn K (.builtin "object.__class__") = some true), decide (PySem.W.mroIn K (He.ga K "NoFraction") (.type "object") = some true), decide (PySem.W.excIn K (He.ga K "NoFraction") PySem.ErrX.bmA "ArithmeticError.__new__" = true), decide (PySem.W.keepIn K (.ref (He.ga K "NoFraction")) = true)]
def EXL_1 (K : PySem.W.Frag) : List Bool := [decide (PySem.W.excInitIn K (He.ga K "BadForm") PySem.ErrX.bmA "ArithmeticError.__new__" = true), decide (PySem.W.excOver K (He.ga K "BadForm") PySem.ErrX.bmA = true), decide (PySem.W.findIn K (.ref (He.ga K "BadForm")) "__setattr__" = some (some (.builtin "object.__setattr__"))), decide (PySem.W.findIn K (.ref (He.ga K "BadForm")) "__getattribute__" = some (some (.builtin "BaseException.__getattribute__"))), decide (PySem.W.findIn K (.ref (He.ga K "BadForm")) "__getattr__" = some none), decide (PySem.W.keepIn K (.ref (He.ga K "BadForm")) = true), decide (PySem.W.subIn K (.ref (He.ga K "BadForm")) (.type "BaseException") = some true), decide (PySem.W.typeIn K (.ref (He.ga K "BadForm")) = some (.type "type")), decide (PySem.W.hasDictIn K (He.ga K "BadForm") = true), decide (PySem.W.findIn K (.ref (He.ga K "BadForm")) "__class__" = some (some (.builtin "object.__class__"))), decide (PySem.W.specialIn K (.builtin "object.__class__") "__get__" = some (some (.builtin "getset_descriptor.__get__"))), decide (PySem.W.takesIn K (.builtin "object.__class__") = some true), decide (PySem.W.mroIn K (He.ga K "BadForm") (.type "object") = some true), decide (PySem.W.findIn K (.ref (He.ga K "BadForm")) "__init__" = some (some (.ref (iniA K "BadForm")))), decide (PySem.W.typeIn K (.ref (iniA K "BadForm")) = some (.type "function")), decide (PySem.W.findIn K (.ref (He.ga K "BadForm")) "part" = some none), decide (PySem.W.ks_superIn K (He.ga K "BadForm") (He.ga K "BadForm") "__init__" = some (some (.builtin "ArithmeticError.__init__"))), decide (PySem.W.subIn K (.ref (He.ga K "BadForm")) (.type "ArithmeticError") = some true), decide (PySem.W.mroIn K (He.ga K "BadForm") (.ref (He.ga K "BadForm")) = some true), decide (PySem.W.nsIn K cStatics "thirdparty.any" = some none)]
def EXL_2 (K : PySem.W.Frag) : List Bool := [decide (PySem.W.nsIn K mainGlobals "super" = some none), ed_Cx1.ok K, decide (PySem.W.excInitIn K (He.ga K "Unfit") PySem.ErrX.bmA "ArithmeticError.__new__" = true), decide (PySem.W.excOver K (He.ga K "Unfit") PySem.ErrX.bmA = true), decide (PySem.W.findIn K (.ref (He.ga K "Unfit")) "__setattr__" = some (some (.builtin "object.__setattr__"))), decide (PySem.W.findIn K (.ref (He.ga K "Unfit")) "__getattribute__" = some (some (.builtin "BaseException.__getattribute__"))), decide (PySem.W.findIn K (.ref (He.ga K "Unfit")) "__getattr__" = some none), decide (PySem.W.keepIn K (.ref (He.ga K "Unfit")) = true), decide (PySem.W.subIn K (.ref (He.ga K "Unfit")) (.type "BaseException") = some true), decide (PySem.W.typeIn K (.ref (He.ga K "Unfit")) = some (.type "type")), decide (PySem.W.hasDictIn K (He.ga K "Unfit") = true), decide (PySem.W.findIn K (.ref (He.ga K "Unfit")) "__class__" = some (some (.builtin "object.__class__"))), decide (PySem.W.specialIn K (.builtin "object.__class__") "__get__" = some (some (.builtin "getset_descriptor.__get__"))), decide (PySem.W.takesIn K (.builtin "object.__class__") = some true), decide (PySem.W.mroIn K (He.ga K "Unfit") (.type "object") = some true), decide (PySem.W.findIn K (.ref (He.ga K "Unfit")) "__init__" = some (some (.ref (iniA K "Unfit")))), decide (PySem.W.typeIn K (.ref (iniA K "Unfit")) = some (.type "function")), decide (PySem.W.findIn K (.ref (He.ga K "Unfit")) "at" = some none), decide (PySem.W.ks_superIn K (He.ga K "Unfit") (He.ga K "Unfit") "__init__" = some (some (.builtin "ArithmeticError.__init__"))), decide (PySem.W.subIn K (.ref (He.ga K "Unfit")) (.type "ArithmeticError") = some true)]
def EXL_3 (K : PySem.W.Frag) : List Bool := [decide (PySem.W.mroIn K (He.ga K "Unfit") (.ref (He.ga K "Unfit")) = some true), decide (PySem.W.nsIn K cStatics "thirdparty.any" = some none), decide (PySem.W.nsIn K mainGlobals "super" = some none), ed_Cx2.ok K, decide (PySem.W.findIn K (.ref (He.ga K "NoMatrix")) "__getattribute__" = some (some (.builtin "BaseException.__getattribute__"))), decide (PySem.W.findIn K (.ref (He.ga K "NoMatrix")) "__getattr__" = some none), decide (PySem.W.subIn K (.ref (He.ga K "NoMatrix")) (.type "BaseException") = some true), decide (PySem.W.hasDictIn K (He.ga K "NoMatrix") = true), decide (PySem.W.findIn K (.ref (He.ga K "NoMatrix")) "__class__" = some (some (.builtin "object.__class__"))), decide (PySem.W.specialIn K (.builtin "object.__class__") "__get__" = some (some (.builtin "getset_descriptor.__get__"))), decide (PySem.W.takesIn K (.builtin "object.__class__") = some true), decide (PySem.W.mroIn K (He.ga K "NoMatrix") (.type "object") = some true), decide (PySem.W.excIn K (He.ga K "NoMatrix") PySem.ErrX.bmA "ArithmeticError.__new__" = true), decide (PySem.W.keepIn K (.ref (He.ga K "NoMatrix")) = true), decide (PySem.W.findIn K (.ref (He.ga K "NoSeries")) "__getattribute__" = some (some (.builtin "BaseException.__getattribute__"))), decide (PySem.W.findIn K (.ref (He.ga K "NoSeries")) "__getattr__" = some none), decide (PySem.W.subIn K (.ref (He.ga K "NoSeries")) (.type "BaseException") = some true), decide (PySem.W.hasDictIn K (He.ga K "NoSeries") = true), decide (PySem.W.findIn K (.ref (He.ga K "NoSeries")) "__class__" = some (some (.builtin "object.__class__"))), decide (PySem.W.specialIn K (.builtin "object.__class__") "__get__" = some (some (.builtin "getset_descriptor.__get__")))]
def EXL_4 (K : PySem.W.Frag) : List Bool := [decide (PySem.W.takesIn K (.builtin "object.__class__") = some true), decide (PySem.W.mroIn K (He.ga K "NoSeries") (.type "object") = some true), decide (PySem.W.excIn K (He.ga K "NoSeries") PySem.ErrX.bmA "ArithmeticError.__new__" = true), decide (PySem.W.keepIn K (.ref (He.ga K "NoSeries")) = true), decide (PySem.W.excInitIn K (He.ga K "NotStill") PySem.ErrX.bmA "ArithmeticError.__new__" = true), decide (PySem.W.excOver K (He.ga K "NotStill") PySem.ErrX.bmA = true), decide (PySem.W.findIn K (.ref (He.ga K "NotStill")) "__setattr__" = some (some (.builtin "object.__setattr__"))), decide (PySem.W.findIn K (.ref (He.ga K "NotStill")) "__getattribute__" = some (some (.builtin "BaseException.__getattribute__"))), decide (PySem.W.findIn K (.ref (He.ga K "NotStill")) "__getattr__" = some none), decide (PySem.W.keepIn K (.ref (He.ga K "NotStill")) = true), decide (PySem.W.subIn K (.ref (He.ga K "NotStill")) (.type "BaseException") = some true), decide (PySem.W.typeIn K (.ref (He.ga K "NotStill")) = some (.type "type")), decide (PySem.W.hasDictIn K (He.ga K "NotStill") = true), decide (PySem.W.findIn K (.ref (He.ga K "NotStill")) "__class__" = some (some (.builtin "object.__class__"))), decide (PySem.W.specialIn K (.builtin "object.__class__") "__get__" = some (some (.builtin "getset_descriptor.__get__"))), decide (PySem.W.takesIn K (.builtin "object.__class__") = some true), decide (PySem.W.mroIn K (He.ga K "NotStill") (.type "object") = some true), decide (PySem.W.findIn K (.ref (He.ga K "NotStill")) "__init__" = some (some (.ref (iniA K "NotStill")))), decide (PySem.W.typeIn K (.ref (iniA K "NotStill")) = some (.type "function")), decide (PySem.W.findIn K (.ref (He.ga K "NotStill")) "paper" = some none)]
def EXL_5 (K : PySem.W.Frag) : List Bool := [decide (PySem.W.ks_superIn K (He.ga K "NotStill") (He.ga K "NotStill") "__init__" = some (some (.builtin "ArithmeticError.__init__"))), decide (PySem.W.subIn K (.ref (He.ga K "NotStill")) (.type "ArithmeticError") = some true), decide (PySem.W.mroIn K (He.ga K "NotStill") (.ref (He.ga K "NotStill")) = some true), decide (PySem.W.nsIn K cStatics "thirdparty.any" = some none), decide (PySem.W.nsIn K mainGlobals "super" = some none), ed_Cx5.ok K, decide (PySem.W.excInitIn K (He.ga K "TooSlow") PySem.ErrX.bmA "ArithmeticError.__new__" = true), decide (PySem.W.excOver K (He.ga K "TooSlow") PySem.ErrX.bmA = true), decide (PySem.W.findIn K (.ref (He.ga K "TooSlow")) "__setattr__" = some (some (.builtin "object.__setattr__"))), decide (PySem.W.findIn K (.ref (He.ga K "TooSlow")) "__getattribute__" = some (some (.builtin "BaseException.__getattribute__"))), decide (PySem.W.findIn K (.ref (He.ga K "TooSlow")) "__getattr__" = some none), decide (PySem.W.keepIn K (.ref (He.ga K "TooSlow")) = true), decide (PySem.W.subIn K (.ref (He.ga K "TooSlow")) (.type "BaseException") = some true), decide (PySem.W.typeIn K (.ref (He.ga K "TooSlow")) = some (.type "type")), decide (PySem.W.hasDictIn K (He.ga K "TooSlow") = true), decide (PySem.W.findIn K (.ref (He.ga K "TooSlow")) "__class__" = some (some (.builtin "object.__class__"))), decide (PySem.W.specialIn K (.builtin "object.__class__") "__get__" = some (some (.builtin "getset_descriptor.__get__"))), decide (PySem.W.takesIn K (.builtin "object.__class__") = some true), decide (PySem.W.mroIn K (He.ga K "TooSlow") (.type "object") = some true), decide (PySem.W.findIn K (.ref (He.ga K "TooSlow")) "__init__" = some (some (.ref (iniA K "TooSlow"))))]
def EXL_6 (K : PySem.W.Frag) : List Bool := [decide (PySem.W.typeIn K (.ref (iniA K "TooSlow")) = some (.type "function")), decide (PySem.W.findIn K (.ref (He.ga K "TooSlow")) "many" = some none), decide (PySem.W.ks_superIn K (He.ga K "TooSlow") (He.ga K "TooSlow") "__init__" = some (some (.builtin "ArithmeticError.__init__"))), decide (PySem.W.subIn K (.ref (He.ga K "TooSlow")) (.type "ArithmeticError") = some true), decide (PySem.W.mroIn K (He.ga K "TooSlow") (.ref (He.ga K "TooSlow")) = some true), decide (PySem.W.nsIn K cStatics "thirdparty.any" = some none), decide (PySem.W.nsIn K mainGlobals "super" = some none), ed_Cx6.ok K, decide (PySem.W.excInitIn K (He.ga K "BadNet") PySem.ErrX.bmA "ArithmeticError.__new__" = true), decide (PySem.W.excOver K (He.ga K "BadNet") PySem.ErrX.bmA = true), decide (PySem.W.findIn K (.ref (He.ga K "BadNet")) "__setattr__" = some (some (.builtin "object.__setattr__"))), decide (PySem.W.findIn K (.ref (He.ga K "BadNet")) "__getattribute__" = some (some (.builtin "BaseException.__getattribute__"))), decide (PySem.W.findIn K (.ref (He.ga K "BadNet")) "__getattr__" = some none), decide (PySem.W.keepIn K (.ref (He.ga K "BadNet")) = true), decide (PySem.W.subIn K (.ref (He.ga K "BadNet")) (.type "BaseException") = some true), decide (PySem.W.typeIn K (.ref (He.ga K "BadNet")) = some (.type "type")), decide (PySem.W.hasDictIn K (He.ga K "BadNet") = true), decide (PySem.W.findIn K (.ref (He.ga K "BadNet")) "__class__" = some (some (.builtin "object.__class__"))), decide (PySem.W.specialIn K (.builtin "object.__class__") "__get__" = some (some (.builtin "getset_descriptor.__get__"))), decide (PySem.W.takesIn K (.builtin "object.__class__") = some true)]
def EXL_7 (K : PySem.W.Frag) : List Bool := [decide (PySem.W.mroIn K (He.ga K "BadNet") (.type "object") = some true), decide (PySem.W.findIn K (.ref (He.ga K "BadNet")) "__init__" = some (some (.ref (iniA K "BadNet")))), decide (PySem.W.typeIn K (.ref (iniA K "BadNet")) = some (.type "function")), decide (PySem.W.findIn K (.ref (He.ga K "BadNet")) "part" = some none), decide (PySem.W.ks_superIn K (He.ga K "BadNet") (He.ga K "BadNet") "__init__" = some (some (.builtin "ArithmeticError.__init__"))), decide (PySem.W.subIn K (.ref (He.ga K "BadNet")) (.type "ArithmeticError") = some true), decide (PySem.W.mroIn K (He.ga K "BadNet") (.ref (He.ga K "BadNet")) = some true), decide (PySem.W.nsIn K cStatics "thirdparty.any" = some none), decide (PySem.W.nsIn K mainGlobals "super" = some none), ed_Cx7.ok K, decide (PySem.W.findIn K (.ref (He.ga K "BadNet")) "at" = some none), decide (PySem.W.findIn K (.ref (He.ga K "BadState")) "__getattribute__" = some (some (.builtin "BaseException.__getattribute__"))), decide (PySem.W.findIn K (.ref (He.ga K "BadState")) "__getattr__" = some none), decide (PySem.W.subIn K (.ref (He.ga K "BadState")) (.type "BaseException") = some true), decide (PySem.W.hasDictIn K (He.ga K "BadState") = true), decide (PySem.W.findIn K (.ref (He.ga K "BadState")) "__class__" = some (some (.builtin "object.__class__"))), decide (PySem.W.specialIn K (.builtin "object.__class__") "__get__" = some (some (.builtin "getset_descriptor.__get__"))), decide (PySem.W.takesIn K (.builtin "object.__class__") = some true), decide (PySem.W.mroIn K (He.ga K "BadState") (.type "object") = some true), decide (PySem.W.excIn K (He.ga K "BadState") PySem.ErrX.bmA "ArithmeticError.__new__" = true)]
def EXL_8 (K : PySem.W.Frag) : List Bool := [decide (PySem.W.keepIn K (.ref (He.ga K "BadState")) = true), decide (PySem.W.excInitIn K (He.ga K "NoTurn") PySem.ErrX.bmA "ArithmeticError.__new__" = true), decide (PySem.W.excOver K (He.ga K "NoTurn") PySem.ErrX.bmA = true), decide (PySem.W.findIn K (.ref (He.ga K "NoTurn")) "__setattr__" = some (some (.builtin "object.__setattr__"))), decide (PySem.W.findIn K (.ref (He.ga K "NoTurn")) "__getattribute__" = some (some (.builtin "BaseException.__getattribute__"))), decide (PySem.W.findIn K (.ref (He.ga K "NoTurn")) "__getattr__" = some none), decide (PySem.W.keepIn K (.ref (He.ga K "NoTurn")) = true), decide (PySem.W.subIn K (.ref (He.ga K "NoTurn")) (.type "BaseException") = some true), decide (PySem.W.typeIn K (.ref (He.ga K "NoTurn")) = some (.type "type")), decide (PySem.W.hasDictIn K (He.ga K "NoTurn") = true), decide (PySem.W.findIn K (.ref (He.ga K "NoTurn")) "__class__" = some (some (.builtin "object.__class__"))), decide (PySem.W.specialIn K (.builtin "object.__class__") "__get__" = some (some (.builtin "getset_descriptor.__get__"))), decide (PySem.W.takesIn K (.builtin "object.__class__") = some true), decide (PySem.W.mroIn K (He.ga K "NoTurn") (.type "object") = some true), decide (PySem.W.findIn K (.ref (He.ga K "NoTurn")) "__init__" = some (some (.ref (iniA K "NoTurn")))), decide (PySem.W.typeIn K (.ref (iniA K "NoTurn")) = some (.type "function")), decide (PySem.W.findIn K (.ref (He.ga K "NoTurn")) "many" = some none), decide (PySem.W.ks_superIn K (He.ga K "NoTurn") (He.ga K "NoTurn") "__init__" = some (some (.builtin "ArithmeticError.__init__"))), decide (PySem.W.subIn K (.ref (He.ga K "NoTurn")) (.type "ArithmeticError") = some true), decide (PySem.W.mroIn K (He.ga K "NoTurn") (.ref (He.ga K "NoTurn")) = some true)]
def EXL_9 (K : PySem.W.Frag) : List Bool := [decide (PySem.W.nsIn K cStatics "thirdparty.any" = some none), decide (PySem.W.nsIn K mainGlobals "super" = some none), ed_Cx9.ok K, decide (PySem.W.findIn K (.ref (He.ga K "NoWords")) "__getattribute__" = some (some (.builtin "BaseException.__getattribute__"))), decide (PySem.W.findIn K (.ref (He.ga K "NoWords")) "__getattr__" = some none), decide (PySem.W.subIn K (.ref (He.ga K "NoWords")) (.type "BaseException") = some true), decide (PySem.W.hasDictIn K (He.ga K "NoWords") = true), decide (PySem.W.findIn K (.ref (He.ga K "NoWords")) "__class__" = some (some (.builtin "object.__class__"))), decide (PySem.W.specialIn K (.builtin "object.__class__") "__get__" = some (some (.builtin "getset_descriptor.__get__"))), decide (PySem.W.takesIn K (.builtin "object.__class__") = some true), decide (PySem.W.mroIn K (He.ga K "NoWords") (.type "object") = some true), decide (PySem.W.excIn K (He.ga K "NoWords") PySem.ErrX.bmA "ArithmeticError.__new__" = true), decide (PySem.W.keepIn K (.ref (He.ga K "NoWords")) = true), decide (PySem.W.excInitIn K (He.ga K "TooMany") PySem.ErrX.bmA "ArithmeticError.__new__" = true), decide (PySem.W.excOver K (He.ga K "TooMany") PySem.ErrX.bmA = true), decide (PySem.W.findIn K (.ref (He.ga K "TooMany")) "__setattr__" = some (some (.builtin "object.__setattr__"))), decide (PySem.W.findIn K (.ref (He.ga K "TooMany")) "__getattribute__" = some (some (.builtin "BaseException.__getattribute__"))), decide (PySem.W.findIn K (.ref (He.ga K "TooMany")) "__getattr__" = some none), decide (PySem.W.keepIn K (.ref (He.ga K "TooMany")) = true), decide (PySem.W.subIn K (.ref (He.ga K "TooMany")) (.type "BaseException") = some true)]
def EXL_10 (K : PySem.W.Frag) : List Bool := [decide (PySem.W.typeIn K (.ref (He.ga K "TooMany")) = some (.type "type")), decide (PySem.W.hasDictIn K (He.ga K "TooMany") = true), decide (PySem.W.findIn K (.ref (He.ga K "TooMany")) "__class__" = some (some (.builtin "object.__class__"))), decide (PySem.W.specialIn K (.builtin "object.__class__") "__get__" = some (some (.builtin "getset_descriptor.__get__"))), decide (PySem.W.takesIn K (.builtin "object.__class__") = some true), decide (PySem.W.mroIn K (He.ga K "TooMany") (.type "object") = some true), decide (PySem.W.findIn K (.ref (He.ga K "TooMany")) "__init__" = some (some (.ref (iniA K "TooMany")))), decide (PySem.W.typeIn K (.ref (iniA K "TooMany")) = some (.type "function")), decide (PySem.W.findIn K (.ref (He.ga K "TooMany")) "many" = some none), decide (PySem.W.ks_superIn K (He.ga K "TooMany") (He.ga K "TooMany") "__init__" = some (some (.builtin "ArithmeticError.__init__"))), decide (PySem.W.subIn K (.ref (He.ga K "TooMany")) (.type "ArithmeticError") = some true), decide (PySem.W.mroIn K (He.ga K "TooMany") (.ref (He.ga K "TooMany")) = some true), decide (PySem.W.nsIn K cStatics "thirdparty.any" = some none), decide (PySem.W.nsIn K mainGlobals "super" = some none), ed_Cx11.ok K, decide (PySem.W.findIn K (.ref (He.ga K "NoState")) "__getattribute__" = some (some (.builtin "BaseException.__getattribute__"))), decide (PySem.W.findIn K (.ref (He.ga K "NoState")) "__getattr__" = some none), decide (PySem.W.subIn K (.ref (He.ga K "NoState")) (.type "BaseException") = some true), decide (PySem.W.hasDictIn K (He.ga K "NoState") = true), decide (PySem.W.findIn K (.ref (He.ga K "NoState")) "__class__" = some (some (.builtin "object.__class__")))]
def EXL_11 (K : PySem.W.Frag) : List Bool := [decide (PySem.W.specialIn K (.builtin "object.__class__") "__get__" = some (some (.builtin "getset_descriptor.__get__"))), decide (PySem.W.takesIn K (.builtin "object.__class__") = some true), decide (PySem.W.mroIn K (He.ga K "NoState") (.type "object") = some true), decide (PySem.W.excIn K (He.ga K "NoState") PySem.ErrX.bmA "ArithmeticError.__new__" = true), decide (PySem.W.keepIn K (.ref (He.ga K "NoState")) = true), decide (PySem.W.excInitIn K (He.ga K "NotFree") PySem.ErrX.bmA "ArithmeticError.__new__" = true), decide (PySem.W.excOver K (He.ga K "NotFree") PySem.ErrX.bmA = true), decide (PySem.W.findIn K (.ref (He.ga K "NotFree")) "__setattr__" = some (some (.builtin "object.__setattr__"))), decide (PySem.W.findIn K (.ref (He.ga K "NotFree")) "__getattribute__" = some (some (.builtin "BaseException.__getattribute__"))), decide (PySem.W.findIn K (.ref (He.ga K "NotFree")) "__getattr__" = some none), decide (PySem.W.keepIn K (.ref (He.ga K "NotFree")) = true), decide (PySem.W.subIn K (.ref (He.ga K "NotFree")) (.type "BaseException") = some true), decide (PySem.W.typeIn K (.ref (He.ga K "NotFree")) = some (.type "type")), decide (PySem.W.hasDictIn K (He.ga K "NotFree") = true), decide (PySem.W.findIn K (.ref (He.ga K "NotFree")) "__class__" = some (some (.builtin "object.__class__"))), decide (PySem.W.specialIn K (.builtin "object.__class__") "__get__" = some (some (.builtin "getset_descriptor.__get__"))), decide (PySem.W.takesIn K (.builtin "object.__class__") = some true), decide (PySem.W.mroIn K (He.ga K "NotFree") (.type "object") = some true), decide (PySem.W.findIn K (.ref (He.ga K "NotFree")) "__init__" = some (some (.ref (iniA K "NotFree")))), decide (PySem.W.typeIn K (.ref (iniA K "NotFree")) = some (.type "function"))]
def EXL_12 (K : PySem.W.Frag) : List Bool := [decide (PySem.W.findIn K (.ref (He.ga K "NotFree")) "row" = some none), decide (PySem.W.ks_superIn K (He.ga K "NotFree") (He.ga K "NotFree") "__init__" = some (some (.builtin "ArithmeticError.__init__"))), decide (PySem.W.subIn K (.ref (He.ga K "NotFree")) (.type "ArithmeticError") = some true), decide (PySem.W.mroIn K (He.ga K "NotFree") (.ref (He.ga K "NotFree")) = some true), decide (PySem.W.nsIn K cStatics "thirdparty.any" = some none), decide (PySem.W.nsIn K mainGlobals "super" = some none), ed_Cx13.ok K, decide (PySem.W.findIn K (.ref (He.ga K "NoChoice")) "__getattribute__" = some (some (.builtin "BaseException.__getattribute__"))), decide (PySem.W.findIn K (.ref (He.ga K "NoChoice")) "__getattr__" = some none), decide (PySem.W.subIn K (.ref (He.ga K "NoChoice")) (.type "BaseException") = some true), decide (PySem.W.hasDictIn K (He.ga K "NoChoice") = true), decide (PySem.W.findIn K (.ref (He.ga K "NoChoice")) "__class__" = some (some (.builtin "object.__class__"))), decide (PySem.W.specialIn K (.builtin "object.__class__") "__get__" = some (some (.builtin "getset_descriptor.__get__"))), decide (PySem.W.takesIn K (.builtin "object.__class__") = some true), decide (PySem.W.mroIn K (He.ga K "NoChoice") (.type "object") = some true), decide (PySem.W.excIn K (He.ga K "NoChoice") PySem.ErrX.bmA "ArithmeticError.__new__" = true), decide (PySem.W.keepIn K (.ref (He.ga K "NoChoice")) = true), decide (PySem.W.excInitIn K (He.ga K "NoText") PySem.ErrX.bmA "ArithmeticError.__new__" = true), decide (PySem.W.excOver K (He.ga K "NoText") PySem.ErrX.bmA = true), decide (PySem.W.findIn K (.ref (He.ga K "NoText")) "__setattr__" = some (some (.builtin "object.__setattr__")))]
def EXL_13 (K : PySem.W.Frag) : List Bool := [decide (PySem.W.findIn K (.ref (He.ga K "NoText")) "__getattribute__" = some (some (.builtin "BaseException.__getattribute__"))), decide (PySem.W.findIn K (.ref (He.ga K "NoText")) "__getattr__" = some none), decide (PySem.W.keepIn K (.ref (He.ga K "NoText")) = true), decide (PySem.W.subIn K (.ref (He.ga K "NoText")) (.type "BaseException") = some true), decide (PySem.W.typeIn K (.ref (He.ga K "NoText")) = some (.type "type")), decide (PySem.W.hasDictIn K (He.ga K "NoText") = true), decide (PySem.W.findIn K (.ref (He.ga K "NoText")) "__class__" = some (some (.builtin "object.__class__"))), decide (PySem.W.specialIn K (.builtin "object.__class__") "__get__" = some (some (.builtin "getset_descriptor.__get__"))), decide (PySem.W.takesIn K (.builtin "object.__class__") = some true), decide (PySem.W.mroIn K (He.ga K "NoText") (.type "object") = some true), decide (PySem.W.findIn K (.ref (He.ga K "NoText")) "__init__" = some (some (.ref (iniA K "NoText")))), decide (PySem.W.typeIn K (.ref (iniA K "NoText")) = some (.type "function")), decide (PySem.W.findIn K (.ref (He.ga K "NoText")) "line" = some none), decide (PySem.W.ks_superIn K (He.ga K "NoText") (He.ga K "NoText") "__init__" = some (some (.builtin "ArithmeticError.__init__"))), decide (PySem.W.subIn K (.ref (He.ga K "NoText")) (.type "ArithmeticError") = some true), decide (PySem.W.mroIn K (He.ga K "NoText") (.ref (He.ga K "NoText")) = some true), decide (PySem.W.nsIn K cStatics "thirdparty.any" = some none), decide (PySem.W.nsIn K mainGlobals "super" = some none), ed_Cx15.ok K, decide (PySem.W.findIn K (.ref (He.ga K "NoLine")) "__getattribute__" = some (some (.builtin "BaseException.__getattribute__")))]
def EXL_14 (K : PySem.W.Frag) : List Bool := [decide (PySem.W.findIn K (.ref (He.ga K "NoLine")) "__getattr__" = some none), decide (PySem.W.subIn K (.ref (He.ga K "NoLine")) (.type "BaseException") = some true), decide (PySem.W.hasDictIn K (He.ga K "NoLine") = true), decide (PySem.W.findIn K (.ref (He.ga K "NoLine")) "__class__" = some (some (.builtin "object.__class__"))), decide (PySem.W.specialIn K (.builtin "object.__class__") "__get__" = some (some (.builtin "getset_descriptor.__get__"))), decide (PySem.W.takesIn K (.builtin "object.__class__") = some true), decide (PySem.W.mroIn K (He.ga K "NoLine") (.type "object") = some true), decide (PySem.W.excIn K (He.ga K "NoLine") PySem.ErrX.bmA "ArithmeticError.__new__" = true), decide (PySem.W.keepIn K (.ref (He.ga K "NoLine")) = true), decide (PySem.W.excInitIn K (He.ga K "NoName") PySem.ErrX.bmA "ArithmeticError.__new__" = true), decide (PySem.W.excOver K (He.ga K "NoName") PySem.ErrX.bmA = true), decide (PySem.W.findIn K (.ref (He.ga K "NoName")) "__setattr__" = some (some (.builtin "object.__setattr__"))), decide (PySem.W.findIn K (.ref (He.ga K "NoName")) "__getattribute__" = some (some (.builtin "BaseException.__getattribute__"))), decide (PySem.W.findIn K (.ref (He.ga K "NoName")) "__getattr__" = some none), decide (PySem.W.keepIn K (.ref (He.ga K "NoName")) = true), decide (PySem.W.subIn K (.ref (He.ga K "NoName")) (.type "BaseException") = some true), decide (PySem.W.typeIn K (.ref (He.ga K "NoName")) = some (.type "type")), decide (PySem.W.hasDictIn K (He.ga K "NoName") = true), decide (PySem.W.findIn K (.ref (He.ga K "NoName")) "__class__" = some (some (.builtin "object.__class__"))), decide (PySem.W.specialIn K (.builtin "object.__class__") "__get__" = some (some (.builtin "getset_descriptor.__get__")))]
def EXL_15 (K : PySem.W.Frag) : List Bool := [decide (PySem.W.takesIn K (.builtin "object.__class__") = some true), decide (PySem.W.mroIn K (He.ga K "NoName") (.type "object") = some true), decide (PySem.W.findIn K (.ref (He.ga K "NoName")) "__init__" = some (some (.ref (iniA K "NoName")))), decide (PySem.W.typeIn K (.ref (iniA K "NoName")) = some (.type "function")), decide (PySem.W.findIn K (.ref (He.ga K "NoName")) "name" = some none), decide (PySem.W.ks_superIn K (He.ga K "NoName") (He.ga K "NoName") "__init__" = some (some (.builtin "ArithmeticError.__init__"))), decide (PySem.W.subIn K (.ref (He.ga K "NoName")) (.type "ArithmeticError") = some true), decide (PySem.W.mroIn K (He.ga K "NoName") (.ref (He.ga K "NoName")) = some true), decide (PySem.W.nsIn K cStatics "thirdparty.any" = some none), decide (PySem.W.nsIn K mainGlobals "super" = some none), ed_Cx17.ok K, decide (dflI K isNought (iniA K "Unfit") = true), decide (dflI K isNought (iniA K "NoText") = true), decide (dflI K isNone (iniA K "BadNet") = true), decide (kitAll K [(He.ga K "NoFraction"), (He.ga K "BadForm"), (He.ga K "Unfit"), (He.ga K "NoMatrix"), (He.ga K "NoSeries"), (He.ga K "NotStill"), (He.ga K "TooSlow"), (He.ga K "BadNet"), (He.ga K "BadState"), (He.ga K "NoTurn"), (He.ga K "NoWords"), (He.ga K "TooMany"), (He.ga K "NoState"), (He.ga K "NotFree"), (He.ga K "NoChoice"), (He.ga K "NoText"), (He.ga K "NoLine"), (He.ga K "NoName")] = true), decide (kitC K [(He.ga K "NoFraction"), (He.ga K "BadForm"), (He.ga K "Unfit"), (He.ga K "NoMatrix"), (He.ga K "NoSeries"), (He.ga K "NotStill"), (He.ga K "TooSlow"), (He.ga K "BadNet"), (He.ga K "BadState"), (He.ga K "NoTurn"), (He.ga K "NoWords"), (He.ga K "TooMany"), (He.ga K "NoState"), (He.ga K "NotFree"), (He.ga K "NoChoice"), (He.ga K "NoText"), (He.ga K "NoLine"), (He.ga K "NoName")] (.ref (He.ga K "EchoError")) true = true), decide (kitC K [(He.ga K "NoFraction"), (He.ga K "BadForm"), (He.ga K "Unfit"), (He.ga K "NoMatrix"), (He.ga K "NoSeries"), (He.ga K "NotStill"), (He.ga K "TooSlow"), (He.ga K "BadNet"), (He.ga K "BadState"), (He.ga K "NoTurn"), (He.ga K "NoWords"), (He.ga K "TooMany"), (He.ga K "NoState"), (He.ga K "NotFree"), (He.ga K "NoChoice"), (He.ga K "NoText"), (He.ga K "NoLine"), (He.ga K "NoName")] (.type "ArithmeticError") true = true), decide (kitA K [(He.ga K "NoFraction"), (He.ga K "BadForm"), (He.ga K "Unfit"), (He.ga K "NoMatrix"), (He.ga K "NoSeries"), (He.ga K "NotStill"), (He.ga K "TooSlow"), (He.ga K "BadNet"), (He.ga K "BadState"), (He.ga K "NoTurn"), (He.ga K "NoWords"), (He.ga K "TooMany"), (He.ga K "NoState"), (He.ga K "NotFree"), (He.ga K "NoChoice"), (He.ga K "NoText"), (He.ga K "NoLine"), (He.ga K "NoName")] [.type "ValueError", .type "KeyError"] false = true), decide (PySem.W.kitAny K (.ref (He.ga K "EchoError")) [.ref (He.ga K "NoFraction"), .ref (He.ga K "BadState")] = some false), decide (PySem.W.kitOne K (.ref (He.ga K "EchoError")) (.type "ArithmeticError") = some true)]
def EXL_16 (K : PySem.W.Frag) : List Bool := [decide (PySem.W.nsIn K mainGlobals "ArithmeticError" = some none)]
def EXL (K : PySem.W.Frag) : List Bool := EXL_0 K ++ (EXL_1 K ++ (EXL_2 K ++ (EXL_3 K ++ (EXL_4 K ++ (EXL_5 K ++ (EXL_6 K ++ (EXL_7 K ++ (EXL_8 K ++ (EXL_9 K ++ (EXL_10 K ++ (EXL_11 K ++ (EXL_12 K ++ (EXL_13 K ++ (EXL_14 K ++ (EXL_15 K ++ (EXL_16 K))))))))))))))))
def EXB (K : PySem.W.Frag) : Bool := (EXL K).all id
def ER_0 : List ErrD := [ed_Cx1, ed_Cx2, ed_Cx5, ed_Cx6, ed_Cx7, ed_Cx9, ed_Cx11, ed_Cx13, ed_Cx15, ed_Cx17]
def ER : List ErrD := ER_0
end E1

namespace HX
open PySem PySem.W PySem.Calls PyProof.Rows
abbrev RR : OpenRow := OpenLaw.row PySem.Challenge.rw_echobound_k10_refusals_made
abbrev qv : Program := view RR.prog [27]
def names_0 : List PySem.Str := [("__name__" : PySem.Str), ("EchoError" : PySem.Str), ("NoFraction" : PySem.Str), ("NoMatrix" : PySem.Str), ("NoSeries" : PySem.Str), ("BadState" : PySem.Str), ("NoWords" : PySem.Str), ("NoState" : PySem.Str), ("NoChoice" : PySem.Str), ("NoLine" : PySem.Str), ("BadForm" : PySem.Str), ("Unfit" : PySem.Str), ("NotStill" : PySem.Str), ("TooSlow" : PySem.Str), ("BadNet" : PySem.Str), ("NoTurn" : PySem.Str), ("TooMany" : PySem.Str), ("NotFree" : PySem.Str), ("NoName" : PySem.Str), ("NoText" : PySem.Str)]
def names_1 : List PySem.Str := [("_law_cell_at" : PySem.Str), ("_law_well" : PySem.Str), ("_law_draw" : PySem.Str), ("_law_marks" : PySem.Str), ("_law_made" : PySem.Str), ("_law_fields" : PySem.Str)]
def names : List PySem.Str := names_0 ++ (names_1)
def AS_0 : List Addr := [3, 6, 4, 24, 37, 49, 61, 73, 85, 97, 109, 121, 142, 164, 185, 206, 228, 249, 270, 291, 312, 334, 343, 350, 357, 364, 371, 378, 383, 0]
def AS_1 : List Addr := [23, 36, 48, 60, 72, 84, 96, 108, 120, 141, 163, 184, 205, 227, 248, 269, 290, 311, 333, 342, 349, 356, 363, 370, 377, 382, 139, 161, 182, 203]
def AS_2 : List Addr := [225, 246, 267, 288, 309, 331, 341, 348, 355, 362, 369, 376, 381, 138, 160, 153, 181, 202, 224, 217, 245, 266, 287, 308, 330, 323, 137, 159, 180, 201]
def AS_3 : List Addr := [223, 244, 265, 286, 307, 329, 127, 148, 170, 191, 212, 234, 255, 276, 297, 318, 2]
def AS : List Addr := AS_0 ++ (AS_1 ++ (AS_2 ++ (AS_3)))
abbrev hk : PySem.W.Hook := E1.hookY AS E1.FA E1.FN E1.TS E1.EXB E1.ER
def ob (s : PySem.W.SharedT) : E1.AlY := E1.obsY AS E1.FA E1.FN E1.TS E1.EXB E1.ER (HandSHeadRun.getT s)
theorem ob_eq (s : PySem.W.SharedT) : ob s = hk.obs s.abs := E1.obsY_eq (HandSHeadRun.getT_eq s)
set_option maxRecDepth 100000 in
set_option maxHeartbeats 0 in
theorem run_f (w : World) : HandSHeadRun.RunEq RR qv hk ob 4811 names (w.withFollow "special-get-raises" false) := fun os => by kernel_rfl
set_option maxRecDepth 100000 in
set_option maxHeartbeats 0 in
theorem run_t (w : World) : HandSHeadRun.RunEq RR qv hk ob 4811 names (w.withFollow "special-get-raises" true) := fun os => by kernel_rfl
theorem run (w : World) : HandSHeadRun.RunEq RR qv hk ob 4811 names w :=
  byRow2 "special-get-raises" (P := fun w => HandSHeadRun.RunEq RR qv hk ob 4811 names w) run_f run_t w
end HX

namespace E1
open PySem PySem.Spec PyProof.Rows L2
open PySem.ErrX (kP kA)
section
variable {P : Program} {w : World} {K : PySem.W.Frag} {mg : Str → Option Value} {C fI cc : Addr} {dV : Value}
theorem isNought_ok {v : Value} (h : isNought v = true) : RelV (.int 0) v := by
  cases v with
  | int i t =>
    have e : i = 0 := of_decide_eq_true h
    subst e
    exact ⟨t, rfl⟩
  | _ => cases h
theorem isNone_ok {v : Value} (h : isNone v = true) : v = .none := by
  cases v with
  | none => rfl
  | _ => cases h
theorem dflI_ok {p : Value → Bool} {oc : Value} {od : Option Addr} {fd : FuncData} {osl : Array (Option Value)} (e : K.lookup fI = some ⟨oc, od, .func fd, osl⟩) (h : dflI K p fI = true) :
    ∃ (T : Addr) (to : Value) (td : Option Addr) (i0 : Value) (tn : Nat) (ts : Array (Option Value)), fd.defaults = .ref T ∧ K.lookup T = some ⟨to, td, .seq #[i0] tn, ts⟩ ∧ p i0 = true := by
  unfold dflI at h
  rw [e] at h
  dsimp only at h
  cases e2 : fd.defaults with
  | ref T =>
    rw [e2] at h
    dsimp only at h
    cases e3 : K.lookup T with
    | none =>
      rw [e3] at h
      cases h
    | some o =>
      rw [e3] at h
      obtain ⟨to, td, dt, ts⟩ := o
      cases dt with
      | seq its tn =>
        obtain ⟨l⟩ := its
        match l, h with
        | [v], h => exact ⟨T, to, td, v, tn, ts, rfl, e3, h⟩
        | [], h => cases h
        | _ :: _ :: _, h => cases h
      | _ => cases h
  | _ =>
    rw [e2] at h
    cases h
theorem BadForm_ini (dz : dV = .none) (EC : PySem.ErrX.ErrC K mg "BadForm" C) (IC : PySem.ErrX.IniC P K mg C fI cc "BadForm.__init__" "part" s_BadForm___init__ dV) : IniF P w K mg C fI (B1 "part" none) := by
  subst dz
  refine ⟨IC.iC, IC.tC, ?_, fun A R s x t0 vs us ns zs ws fs MO hx hnx hroom hB r rz hn hq => ?_⟩
  · intro vs ks fs h
    obtain ⟨v, -, -, h⟩ := h
    rcases h with ⟨rfl, -⟩ | ⟨rfl, -⟩ | ⟨rfl, -⟩
    · exact (by decide : 1 ≤ 5)
    · exact (by decide : 0 ≤ 5)
    · exact (by decide : 0 ≤ 5)
  obtain ⟨v, fv, rfl, hh⟩ := hB
  have hps : PySem.ErrX.IniC P K mg C fI cc "BadForm.__init__" "part" s_BadForm___init__ .none := IC
  have fin : ∀ {ar : Args} (u : Value), RelV v u → (∀ kV doc pm an cda ct, BindsTo s (PySem.W.ksFn "__init__" "BadForm.__init__" (defArgs s_BadForm___init__) (defBody s_BadForm___init__) (defScope s_BadForm___init__) .none kV doc pm an (.ref cda) ct cc) ar [(Str.ofString "self", .ref x), ("part", u)]) → codeAny (model P w) A (.call (.ref fI) ar) R s := by
    intro ar u ru hb
    refine PySem.ErrX.err_init EC IC ⟨by decide +kernel, by decide +kernel, by decide +kernel, by decide +kernel, by decide +kernel⟩ rfl rfl ?_ (by decide) rfl rfl MO hx hnx hroom (fv.ok ru) hb fun h' tk dx E => hq h' tk dx E.keep E.obj E.dbig E.dne ⟨_, E.ns, relO_one ru⟩
    intro e he
    simp only [List.mem_cons, List.not_mem_nil, or_false] at he
    rcases he with rfl | rfl | rfl
    · exact .c (by decide)
    · exact .f
    · exact .c (by decide)
  rcases hh with hh | hh | hh
  · obtain ⟨rfl, e1⟩ := hh
    match us, r with
    | [u], .cons ru .nil =>
    rw [zip0 rz hn e1]
    exact fin u ru (fun kV doc pm an cda ct => .of_eq rfl)
  · obtain ⟨rfl, e1⟩ := hh
    cases r
    obtain ⟨u, ru, e2⟩ := zip1 rz hn e1
    rw [e2]
    exact fin u ru (fun kV doc pm an cda ct => .of_eq rfl)
  · cases hh.2.2
theorem Unfit_ini (dz : dflI K isNought fI = true) (EC : PySem.ErrX.ErrC K mg "Unfit" C) (IC : PySem.ErrX.IniC P K mg C fI cc "Unfit.__init__" "at" s_Unfit___init__ dV) : IniF P w K mg C fI (B1 "at" (some (.int 0))) := by
  obtain ⟨oc, od, kV', doc', pm', an', cda', ct', osl, ho, -⟩ := id IC.fn
  obtain ⟨T, to, td, i0, tn, ts, eT, lT, h0⟩ := dflI_ok ho dz
  replace eT : dV = .ref T := eT
  subst eT
  refine ⟨IC.iC, IC.tC, ?_, fun A R s x t0 vs us ns zs ws fs MO hx hnx hroom hB r rz hn hq => ?_⟩
  · intro vs ks fs h
    obtain ⟨v, -, -, h⟩ := h
    rcases h with ⟨rfl, -⟩ | ⟨rfl, -⟩ | ⟨rfl, -⟩
    · exact (by decide : 1 ≤ 5)
    · exact (by decide : 0 ≤ 5)
    · exact (by decide : 0 ≤ 5)
  obtain ⟨v, fv, rfl, hh⟩ := hB
  have hps : PySem.ErrX.IniC P K mg C fI cc "Unfit.__init__" "at" s_Unfit___init__ (.ref T) := IC
  have fin : ∀ {ar : Args} (u : Value), RelV v u → (∀ kV doc pm an cda ct, BindsTo s (PySem.W.ksFn "__init__" "Unfit.__init__" (defArgs s_Unfit___init__) (defBody s_Unfit___init__) (defScope s_Unfit___init__) (.ref T) kV doc pm an (.ref cda) ct cc) ar [(Str.ofString "self", .ref x), ("at", u)]) → codeAny (model P w) A (.call (.ref fI) ar) R s := by
    intro ar u ru hb
    refine PySem.ErrX.err_init EC IC ⟨by decide +kernel, by decide +kernel, by decide +kernel, by decide +kernel, by decide +kernel⟩ rfl rfl ?_ (by decide) rfl rfl MO hx hnx hroom (fv.ok ru) hb fun h' tk dx E => hq h' tk dx E.keep E.obj E.dbig E.dne ⟨_, E.ns, relO_one ru⟩
    intro e he
    simp only [List.mem_cons, List.not_mem_nil, or_false] at he
    rcases he with rfl | rfl
    · exact .c (by decide)
    · exact .f
  rcases hh with hh | hh | hh
  · obtain ⟨rfl, e1⟩ := hh
    match us, r with
    | [u], .cons ru .nil =>
    rw [zip0 rz hn e1]
    exact fin u ru (fun kV doc pm an cda ct => by
      have hk : ∃ k, bindArgs (PySem.W.ksFn "__init__" "Unfit.__init__" (defArgs s_Unfit___init__) (defBody s_Unfit___init__) (defScope s_Unfit___init__) (.ref T) kV doc pm an (.ref cda) ct cc) ⟨[.ref x, u], []⟩ = seqItems? (.ref T) >>= k ∧ k (some #[i0]) = pure [(Str.ofString "self", .ref x), ("at", u)] := ⟨_, rfl, rfl⟩
      obtain ⟨k, e1, e2⟩ := hk
      refine BindsTo.of_looks fun M => ?_
      rw [e1]
      exact looks_items MO.kin lT rfl (.of_pure e2))
  · obtain ⟨rfl, e1⟩ := hh
    cases r
    obtain ⟨u, ru, e2⟩ := zip1 rz hn e1
    rw [e2]
    exact fin u ru (fun kV doc pm an cda ct => by
      have hk : ∃ k, bindArgs (PySem.W.ksFn "__init__" "Unfit.__init__" (defArgs s_Unfit___init__) (defBody s_Unfit___init__) (defScope s_Unfit___init__) (.ref T) kV doc pm an (.ref cda) ct cc) ⟨[.ref x], [("at", u)]⟩ = seqItems? (.ref T) >>= k ∧ k (some #[i0]) = pure [(Str.ofString "self", .ref x), ("at", u)] := ⟨_, rfl, rfl⟩
      obtain ⟨k, e1, e2⟩ := hk
      refine BindsTo.of_looks fun M => ?_
      rw [e1]
      exact looks_items MO.kin lT rfl (.of_pure e2))
  · obtain ⟨rfl, e1, e2⟩ := hh
    cases r
    rw [zip0 rz hn e1]
    cases e2
    exact fin _ (isNought_ok h0) (fun kV doc pm an cda ct => by
      have hk : ∃ k, bindArgs (PySem.W.ksFn "__init__" "Unfit.__init__" (defArgs s_Unfit___init__) (defBody s_Unfit___init__) (defScope s_Unfit___init__) (.ref T) kV doc pm an (.ref cda) ct cc) ⟨[.ref x], []⟩ = seqItems? (.ref T) >>= k ∧ k (some #[i0]) = pure [(Str.ofString "self", .ref x), ("at", i0)] := ⟨_, rfl, rfl⟩
      obtain ⟨k, e1, e2⟩ := hk
      refine BindsTo.of_looks fun M => ?_
      rw [e1]
      exact looks_items MO.kin lT rfl (.of_pure e2))
theorem TooSlow_ini (dz : dV = .none) (EC : PySem.ErrX.ErrC K mg "TooSlow" C) (IC : PySem.ErrX.IniC P K mg C fI cc "TooSlow.__init__" "many" s_TooSlow___init__ dV) : IniF P w K mg C fI (B1 "many" none) := by
  subst dz
  refine ⟨IC.iC, IC.tC, ?_, fun A R s x t0 vs us ns zs ws fs MO hx hnx hroom hB r rz hn hq => ?_⟩
  · intro vs ks fs h
    obtain ⟨v, -, -, h⟩ := h
    rcases h with ⟨rfl, -⟩ | ⟨rfl, -⟩ | ⟨rfl, -⟩
    · exact (by decide : 1 ≤ 5)
    · exact (by decide : 0 ≤ 5)
    · exact (by decide : 0 ≤ 5)
  obtain ⟨v, fv, rfl, hh⟩ := hB
  have hps : PySem.ErrX.IniC P K mg C fI cc "TooSlow.__init__" "many" s_TooSlow___init__ .none := IC
  have fin : ∀ {ar : Args} (u : Value), RelV v u → (∀ kV doc pm an cda ct, BindsTo s (PySem.W.ksFn "__init__" "TooSlow.__init__" (defArgs s_TooSlow___init__) (defBody s_TooSlow___init__) (defScope s_TooSlow___init__) .none kV doc pm an (.ref cda) ct cc) ar [(Str.ofString "self", .ref x), ("many", u)]) → codeAny (model P w) A (.call (.ref fI) ar) R s := by
    intro ar u ru hb
    refine PySem.ErrX.err_init EC IC ⟨by decide +kernel, by decide +kernel, by decide +kernel, by decide +kernel, by decide +kernel⟩ rfl rfl ?_ (by decide) rfl rfl MO hx hnx hroom (fv.ok ru) hb fun h' tk dx E => hq h' tk dx E.keep E.obj E.dbig E.dne ⟨_, E.ns, relO_one ru⟩
    intro e he
    simp only [List.mem_cons, List.not_mem_nil, or_false] at he
    rcases he with rfl | rfl | rfl
    · exact .c (by decide)
    · exact .f
    · exact .c (by decide)
  rcases hh with hh | hh | hh
  · obtain ⟨rfl, e1⟩ := hh
    match us, r with
    | [u], .cons ru .nil =>
    rw [zip0 rz hn e1]
    exact fin u ru (fun kV doc pm an cda ct => .of_eq rfl)
  · obtain ⟨rfl, e1⟩ := hh
    cases r
    obtain ⟨u, ru, e2⟩ := zip1 rz hn e1
    rw [e2]
    exact fin u ru (fun kV doc pm an cda ct => .of_eq rfl)
  · cases hh.2.2
theorem NoTurn_ini (dz : dV = .none) (EC : PySem.ErrX.ErrC K mg "NoTurn" C) (IC : PySem.ErrX.IniC P K mg C fI cc "NoTurn.__init__" "many" s_NoTurn___init__ dV) : IniF P w K mg C fI (B1 "many" none) := by
  subst dz
  refine ⟨IC.iC, IC.tC, ?_, fun A R s x t0 vs us ns zs ws fs MO hx hnx hroom hB r rz hn hq => ?_⟩
  · intro vs ks fs h
    obtain ⟨v, -, -, h⟩ := h
    rcases h with ⟨rfl, -⟩ | ⟨rfl, -⟩ | ⟨rfl, -⟩
    · exact (by decide : 1 ≤ 5)
    · exact (by decide : 0 ≤ 5)
    · exact (by decide : 0 ≤ 5)
  obtain ⟨v, fv, rfl, hh⟩ := hB
  have hps : PySem.ErrX.IniC P K mg C fI cc "NoTurn.__init__" "many" s_NoTurn___init__ .none := IC
  have fin : ∀ {ar : Args} (u : Value), RelV v u → (∀ kV doc pm an cda ct, BindsTo s (PySem.W.ksFn "__init__" "NoTurn.__init__" (defArgs s_NoTurn___init__) (defBody s_NoTurn___init__) (defScope s_NoTurn___init__) .none kV doc pm an (.ref cda) ct cc) ar [(Str.ofString "self", .ref x), ("many", u)]) → codeAny (model P w) A (.call (.ref fI) ar) R s := by
    intro ar u ru hb
    refine PySem.ErrX.err_init EC IC ⟨by decide +kernel, by decide +kernel, by decide +kernel, by decide +kernel, by decide +kernel⟩ rfl rfl ?_ (by decide) rfl rfl MO hx hnx hroom (fv.ok ru) hb fun h' tk dx E => hq h' tk dx E.keep E.obj E.dbig E.dne ⟨_, E.ns, relO_one ru⟩
    intro e he
    simp only [List.mem_cons, List.not_mem_nil, or_false] at he
    rcases he with rfl | rfl | rfl
    · exact .c (by decide)
    · exact .f
    · exact .c (by decide)
  rcases hh with hh | hh | hh
  · obtain ⟨rfl, e1⟩ := hh
    match us, r with
    | [u], .cons ru .nil =>
    rw [zip0 rz hn e1]
    exact fin u ru (fun kV doc pm an cda ct => .of_eq rfl)
  · obtain ⟨rfl, e1⟩ := hh
    cases r
    obtain ⟨u, ru, e2⟩ := zip1 rz hn e1
    rw [e2]
    exact fin u ru (fun kV doc pm an cda ct => .of_eq rfl)
  · cases hh.2.2
theorem TooMany_ini (dz : dV = .none) (EC : PySem.ErrX.ErrC K mg "TooMany" C) (IC : PySem.ErrX.IniC P K mg C fI cc "TooMany.__init__" "many" s_TooMany___init__ dV) : IniF P w K mg C fI (B1 "many" none) := by
  subst dz
  refine ⟨IC.iC, IC.tC, ?_, fun A R s x t0 vs us ns zs ws fs MO hx hnx hroom hB r rz hn hq => ?_⟩
  · intro vs ks fs h
    obtain ⟨v, -, -, h⟩ := h
    rcases h with ⟨rfl, -⟩ | ⟨rfl, -⟩ | ⟨rfl, -⟩
    · exact (by decide : 1 ≤ 5)
    · exact (by decide : 0 ≤ 5)
    · exact (by decide : 0 ≤ 5)
  obtain ⟨v, fv, rfl, hh⟩ := hB
  have hps : PySem.ErrX.IniC P K mg C fI cc "TooMany.__init__" "many" s_TooMany___init__ .none := IC
  have fin : ∀ {ar : Args} (u : Value), RelV v u → (∀ kV doc pm an cda ct, BindsTo s (PySem.W.ksFn "__init__" "TooMany.__init__" (defArgs s_TooMany___init__) (defBody s_TooMany___init__) (defScope s_TooMany___init__) .none kV doc pm an (.ref cda) ct cc) ar [(Str.ofString "self", .ref x), ("many", u)]) → codeAny (model P w) A (.call (.ref fI) ar) R s := by
    intro ar u ru hb
    refine PySem.ErrX.err_init EC IC ⟨by decide +kernel, by decide +kernel, by decide +kernel, by decide +kernel, by decide +kernel⟩ rfl rfl ?_ (by decide) rfl rfl MO hx hnx hroom (fv.ok ru) hb fun h' tk dx E => hq h' tk dx E.keep E.obj E.dbig E.dne ⟨_, E.ns, relO_one ru⟩
    intro e he
    simp only [List.mem_cons, List.not_mem_nil, or_false] at he
    rcases he with rfl | rfl | rfl
    · exact .c (by decide)
    · exact .f
    · exact .c (by decide)
  rcases hh with hh | hh | hh
  · obtain ⟨rfl, e1⟩ := hh
    match us, r with
    | [u], .cons ru .nil =>
    rw [zip0 rz hn e1]
    exact fin u ru (fun kV doc pm an cda ct => .of_eq rfl)
  · obtain ⟨rfl, e1⟩ := hh
    cases r
    obtain ⟨u, ru, e2⟩ := zip1 rz hn e1
    rw [e2]
    exact fin u ru (fun kV doc pm an cda ct => .of_eq rfl)
  · cases hh.2.2
theorem NotFree_ini (dz : dV = .none) (EC : PySem.ErrX.ErrC K mg "NotFree" C) (IC : PySem.ErrX.IniC P K mg C fI cc "NotFree.__init__" "row" s_NotFree___init__ dV) : IniF P w K mg C fI (B1 "row" none) := by
  subst dz
  refine ⟨IC.iC, IC.tC, ?_, fun A R s x t0 vs us ns zs ws fs MO hx hnx hroom hB r rz hn hq => ?_⟩
  · intro vs ks fs h
    obtain ⟨v, -, -, h⟩ := h
    rcases h with ⟨rfl, -⟩ | ⟨rfl, -⟩ | ⟨rfl, -⟩
    · exact (by decide : 1 ≤ 5)
    · exact (by decide : 0 ≤ 5)
    · exact (by decide : 0 ≤ 5)
  obtain ⟨v, fv, rfl, hh⟩ := hB
  have hps : PySem.ErrX.IniC P K mg C fI cc "NotFree.__init__" "row" s_NotFree___init__ .none := IC
  have fin : ∀ {ar : Args} (u : Value), RelV v u → (∀ kV doc pm an cda ct, BindsTo s (PySem.W.ksFn "__init__" "NotFree.__init__" (defArgs s_NotFree___init__) (defBody s_NotFree___init__) (defScope s_NotFree___init__) .none kV doc pm an (.ref cda) ct cc) ar [(Str.ofString "self", .ref x), ("row", u)]) → codeAny (model P w) A (.call (.ref fI) ar) R s := by
    intro ar u ru hb
    refine PySem.ErrX.err_init EC IC ⟨by decide +kernel, by decide +kernel, by decide +kernel, by decide +kernel, by decide +kernel⟩ rfl rfl ?_ (by decide) rfl rfl MO hx hnx hroom (fv.ok ru) hb fun h' tk dx E => hq h' tk dx E.keep E.obj E.dbig E.dne ⟨_, E.ns, relO_one ru⟩
    intro e he
    simp only [List.mem_cons, List.not_mem_nil, or_false] at he
    rcases he with rfl | rfl | rfl
    · exact .c (by decide)
    · exact .f
    · exact .c (by decide)
  rcases hh with hh | hh | hh
  · obtain ⟨rfl, e1⟩ := hh
    match us, r with
    | [u], .cons ru .nil =>
    rw [zip0 rz hn e1]
    exact fin u ru (fun kV doc pm an cda ct => .of_eq rfl)
  · obtain ⟨rfl, e1⟩ := hh
    cases r
    obtain ⟨u, ru, e2⟩ := zip1 rz hn e1
    rw [e2]
    exact fin u ru (fun kV doc pm an cda ct => .of_eq rfl)
  · cases hh.2.2
theorem NoName_ini (dz : dV = .none) (EC : PySem.ErrX.ErrC K mg "NoName" C) (IC : PySem.ErrX.IniC P K mg C fI cc "NoName.__init__" "name" s_NoName___init__ dV) : IniF P w K mg C fI (B1 "name" none) := by
  subst dz
  refine ⟨IC.iC, IC.tC, ?_, fun A R s x t0 vs us ns zs ws fs MO hx hnx hroom hB r rz hn hq => ?_⟩
  · intro vs ks fs h
    obtain ⟨v, -, -, h⟩ := h
    rcases h with ⟨rfl, -⟩ | ⟨rfl, -⟩ | ⟨rfl, -⟩
    · exact (by decide : 1 ≤ 5)
    · exact (by decide : 0 ≤ 5)
    · exact (by decide : 0 ≤ 5)
  obtain ⟨v, fv, rfl, hh⟩ := hB
  have hps : PySem.ErrX.IniC P K mg C fI cc "NoName.__init__" "name" s_NoName___init__ .none := IC
  have fin : ∀ {ar : Args} (u : Value), RelV v u → (∀ kV doc pm an cda ct, BindsTo s (PySem.W.ksFn "__init__" "NoName.__init__" (defArgs s_NoName___init__) (defBody s_NoName___init__) (defScope s_NoName___init__) .none kV doc pm an (.ref cda) ct cc) ar [(Str.ofString "self", .ref x), ("name", u)]) → codeAny (model P w) A (.call (.ref fI) ar) R s := by
    intro ar u ru hb
    refine PySem.ErrX.err_init EC IC ⟨by decide +kernel, by decide +kernel, by decide +kernel, by decide +kernel, by decide +kernel⟩ rfl rfl ?_ (by decide) rfl rfl MO hx hnx hroom (fv.ok ru) hb fun h' tk dx E => hq h' tk dx E.keep E.obj E.dbig E.dne ⟨_, E.ns, relO_one ru⟩
    intro e he
    simp only [List.mem_cons, List.not_mem_nil, or_false] at he
    rcases he with rfl | rfl
    · exact .c (by decide)
    · exact .f
  rcases hh with hh | hh | hh
  · obtain ⟨rfl, e1⟩ := hh
    match us, r with
    | [u], .cons ru .nil =>
    rw [zip0 rz hn e1]
    exact fin u ru (fun kV doc pm an cda ct => .of_eq rfl)
  · obtain ⟨rfl, e1⟩ := hh
    cases r
    obtain ⟨u, ru, e2⟩ := zip1 rz hn e1
    rw [e2]
    exact fin u ru (fun kV doc pm an cda ct => .of_eq rfl)
  · cases hh.2.2
theorem NoText_ini (dz : dflI K isNought fI = true) (EC : PySem.ErrX.ErrC K mg "NoText" C) (IC : PySem.ErrX.IniC P K mg C fI cc "NoText.__init__" "line" s_NoText___init__ dV) : IniF P w K mg C fI (B1 "line" (some (.int 0))) := by
  obtain ⟨oc, od, kV', doc', pm', an', cda', ct', osl, ho, -⟩ := id IC.fn
  obtain ⟨T, to, td, i0, tn, ts, eT, lT, h0⟩ := dflI_ok ho dz
  replace eT : dV = .ref T := eT
  subst eT
  refine ⟨IC.iC, IC.tC, ?_, fun A R s x t0 vs us ns zs ws fs MO hx hnx hroom hB r rz hn hq => ?_⟩
  · intro vs ks fs h
    obtain ⟨v, -, -, h⟩ := h
    rcases h with ⟨rfl, -⟩ | ⟨rfl, -⟩ | ⟨rfl, -⟩
    · exact (by decide : 1 ≤ 5)
    · exact (by decide : 0 ≤ 5)
    · exact (by decide : 0 ≤ 5)
  obtain ⟨v, fv, rfl, hh⟩ := hB
  have hps : PySem.ErrX.IniC P K mg C fI cc "NoText.__init__" "line" s_NoText___init__ (.ref T) := IC
  have fin : ∀ {ar : Args} (u : Value), RelV v u → (∀ kV doc pm an cda ct, BindsTo s (PySem.W.ksFn "__init__" "NoText.__init__" (defArgs s_NoText___init__) (defBody s_NoText___init__) (defScope s_NoText___init__) (.ref T) kV doc pm an (.ref cda) ct cc) ar [(Str.ofString "self", .ref x), ("line", u)]) → codeAny (model P w) A (.call (.ref fI) ar) R s := by
    intro ar u ru hb
    refine PySem.ErrX.err_init EC IC ⟨by decide +kernel, by decide +kernel, by decide +kernel, by decide +kernel, by decide +kernel⟩ rfl rfl ?_ (by decide) rfl rfl MO hx hnx hroom (fv.ok ru) hb fun h' tk dx E => hq h' tk dx E.keep E.obj E.dbig E.dne ⟨_, E.ns, relO_one ru⟩
    intro e he
    simp only [List.mem_cons, List.not_mem_nil, or_false] at he
    rcases he with rfl | rfl
    · exact .c (by decide)
    · exact .f
  rcases hh with hh | hh | hh
  · obtain ⟨rfl, e1⟩ := hh
    match us, r with
    | [u], .cons ru .nil =>
    rw [zip0 rz hn e1]
    exact fin u ru (fun kV doc pm an cda ct => by
      have hk : ∃ k, bindArgs (PySem.W.ksFn "__init__" "NoText.__init__" (defArgs s_NoText___init__) (defBody s_NoText___init__) (defScope s_NoText___init__) (.ref T) kV doc pm an (.ref cda) ct cc) ⟨[.ref x, u], []⟩ = seqItems? (.ref T) >>= k ∧ k (some #[i0]) = pure [(Str.ofString "self", .ref x), ("line", u)] := ⟨_, rfl, rfl⟩
      obtain ⟨k, e1, e2⟩ := hk
      refine BindsTo.of_looks fun M => ?_
      rw [e1]
      exact looks_items MO.kin lT rfl (.of_pure e2))
  · obtain ⟨rfl, e1⟩ := hh
    cases r
    obtain ⟨u, ru, e2⟩ := zip1 rz hn e1
    rw [e2]
    exact fin u ru (fun kV doc pm an cda ct => by
      have hk : ∃ k, bindArgs (PySem.W.ksFn "__init__" "NoText.__init__" (defArgs s_NoText___init__) (defBody s_NoText___init__) (defScope s_NoText___init__) (.ref T) kV doc pm an (.ref cda) ct cc) ⟨[.ref x], [("line", u)]⟩ = seqItems? (.ref T) >>= k ∧ k (some #[i0]) = pure [(Str.ofString "self", .ref x), ("line", u)] := ⟨_, rfl, rfl⟩
      obtain ⟨k, e1, e2⟩ := hk
      refine BindsTo.of_looks fun M => ?_
      rw [e1]
      exact looks_items MO.kin lT rfl (.of_pure e2))
  · obtain ⟨rfl, e1, e2⟩ := hh
    cases r
    rw [zip0 rz hn e1]
    cases e2
    exact fin _ (isNought_ok h0) (fun kV doc pm an cda ct => by
      have hk : ∃ k, bindArgs (PySem.W.ksFn "__init__" "NoText.__init__" (defArgs s_NoText___init__) (defBody s_NoText___init__) (defScope s_NoText___init__) (.ref T) kV doc pm an (.ref cda) ct cc) ⟨[.ref x], []⟩ = seqItems? (.ref T) >>= k ∧ k (some #[i0]) = pure [(Str.ofString "self", .ref x), ("line", i0)] := ⟨_, rfl, rfl⟩
      obtain ⟨k, e1, e2⟩ := hk
      refine BindsTo.of_looks fun M => ?_
      rw [e1]
      exact looks_items MO.kin lT rfl (.of_pure e2))
theorem NotStill_ini (dz : dV = .none) (EC : PySem.ErrX.ErrC K mg "NotStill" C) (IC : PySem.ErrX.IniC P K mg C fI cc "NotStill.__init__" "paper" s_NotStill___init__ dV) : IniF P w K mg C fI (B1a "paper") := by
  subst dz
  refine ⟨IC.iC, IC.tC, ?_, fun A R s x t0 vs us ns zs ws fs MO hx hnx hroom hB r rz hn hq => ?_⟩
  · intro vs ks fs h
    obtain ⟨v, -, h⟩ := h
    rcases h with ⟨rfl, -⟩ | ⟨rfl, -⟩
    · exact (by decide : 1 ≤ 5)
    · exact (by decide : 0 ≤ 5)
  obtain ⟨v, rfl, hh⟩ := hB
  have fin : ∀ {ar : Args} (u : Value), RelV v u → (∀ kV doc pm an cda ct, BindsTo s (PySem.W.ksFn "__init__" "NotStill.__init__" (defArgs s_NotStill___init__) (defBody s_NotStill___init__) (defScope s_NotStill___init__) .none kV doc pm an (.ref cda) ct cc) ar [(Str.ofString "self", .ref x), ("paper", u)]) → codeAny (model P w) A (.call (.ref fI) ar) R s := by
    intro ar u ru hb
    exact PySem.ErrX.err_initC EC IC ⟨by decide +kernel, by decide +kernel, by decide +kernel, by decide +kernel, by decide +kernel⟩ rfl rfl rfl rfl MO hx hnx hroom hb fun h' tk dx E => hq h' tk dx E.keep E.obj E.dbig E.dne ⟨_, E.ns, relO_one ru⟩
  rcases hh with hh | hh
  · obtain ⟨rfl, e1⟩ := hh
    match us, r with
    | [u], .cons ru .nil =>
    rw [zip0 rz hn e1]
    exact fin u ru (fun kV doc pm an cda ct => .of_eq rfl)
  · obtain ⟨rfl, e1⟩ := hh
    cases r
    obtain ⟨u, ru, e2⟩ := zip1 rz hn e1
    rw [e2]
    exact fin u ru (fun kV doc pm an cda ct => .of_eq rfl)
theorem BadNet_ini (nA : PySem.W.findIn K (.ref C) "at" = some none) (dz : dflI K isNone fI = true) (EC : PySem.ErrX.ErrC K mg "BadNet" C) (IC : PySem.ErrX.IniC P K mg C fI cc "BadNet.__init__" "part" s_BadNet___init__ dV) : IniF P w K mg C fI B2 := by
  obtain ⟨oc, od, kV', doc', pm', an', cda', ct', osl, ho, -⟩ := id IC.fn
  obtain ⟨T, to, td, i0, tn, ts, eT, lT, h0⟩ := dflI_ok ho dz
  replace eT : dV = .ref T := eT
  subst eT
  have h1 := isNone_ok h0
  subst h1
  refine ⟨IC.iC, IC.tC, ?_, fun A R s x t0 vs us ns zs ws fs MO hx hnx hroom hB r rz hn hq => ?_⟩
  · intro vs ks fs h
    obtain ⟨v, u, -, -, -, h⟩ := h
    rcases h with ⟨rfl, -⟩ | ⟨rfl, -⟩ | ⟨rfl, -⟩
    · exact (by decide : 2 ≤ 5)
    · exact (by decide : 0 ≤ 5)
    · exact (by decide : 1 ≤ 5)
  obtain ⟨v, v2, fv, fv2, rfl, hh⟩ := hB
  have fin : ∀ {ar : Args} (u u2 : Value), RelV v u → RelV v2 u2 → (∀ kV doc pm an cda ct, BindsTo s (PySem.W.ksFn "__init__" "BadNet.__init__" (defArgs s_BadNet___init__) (defBody s_BadNet___init__) (defScope s_BadNet___init__) (.ref T) kV doc pm an (.ref cda) ct cc) ar [(Str.ofString "self", .ref x), (kP, u), (kA, u2)]) → codeAny (model P w) A (.call (.ref fI) ar) R s := by
    intro ar u u2 ru ru2 hb
    refine PySem.ErrX.err_init2 EC IC nA rfl rfl ?_ (by decide) rfl rfl MO hx hnx hroom (fv.ok ru) (fv2.ok ru2) hb fun h' tk dx E => hq h' tk dx E.keep E.obj E.dbig E.dne ⟨_, E.ns, relO_two ru ru2⟩
    intro e he
    simp only [List.mem_cons, List.not_mem_nil, or_false] at he
    rcases he with rfl | rfl | rfl | rfl
    · exact .c (by decide)
    · exact .p
    · exact .c (by decide)
    · exact .a
  rcases hh with hh | hh | hh
  · obtain ⟨rfl, e1⟩ := hh
    match us, r with
    | [u, u2], .cons ru (.cons ru2 .nil) =>
    rw [zip0 rz hn e1]
    exact fin u u2 ru ru2 (fun kV doc pm an cda ct => by
      have hk : ∃ k, bindArgs (PySem.W.ksFn "__init__" "BadNet.__init__" (defArgs s_BadNet___init__) (defBody s_BadNet___init__) (defScope s_BadNet___init__) (.ref T) kV doc pm an (.ref cda) ct cc) ⟨[.ref x, u, u2], []⟩ = seqItems? (.ref T) >>= k ∧ k (some #[.none]) = pure [(Str.ofString "self", .ref x), (kP, u), (kA, u2)] := ⟨_, rfl, rfl⟩
      obtain ⟨k, e1, e2⟩ := hk
      refine BindsTo.of_looks fun M => ?_
      rw [e1]
      exact looks_items MO.kin lT rfl (.of_pure e2))
  · obtain ⟨rfl, e1⟩ := hh
    cases r
    obtain ⟨u2, u, ru2, ru, e2⟩ := zip2 rz hn e1
    rw [e2]
    exact fin u u2 ru ru2 (fun kV doc pm an cda ct => by
      have hk : ∃ k, bindArgs (PySem.W.ksFn "__init__" "BadNet.__init__" (defArgs s_BadNet___init__) (defBody s_BadNet___init__) (defScope s_BadNet___init__) (.ref T) kV doc pm an (.ref cda) ct cc) ⟨[.ref x], [(kA, u2), (kP, u)]⟩ = seqItems? (.ref T) >>= k ∧ k (some #[.none]) = pure [(Str.ofString "self", .ref x), (kP, u), (kA, u2)] := ⟨_, rfl, rfl⟩
      obtain ⟨k, e1, e2⟩ := hk
      refine BindsTo.of_looks fun M => ?_
      rw [e1]
      exact looks_items MO.kin lT rfl (.of_pure e2))
  · obtain ⟨rfl, e1, rfl⟩ := hh
    match us, r with
    | [u], .cons ru .nil =>
    rw [zip0 rz hn e1]
    exact fin u .none ru rfl (fun kV doc pm an cda ct => by
      have hk : ∃ k, bindArgs (PySem.W.ksFn "__init__" "BadNet.__init__" (defArgs s_BadNet___init__) (defBody s_BadNet___init__) (defScope s_BadNet___init__) (.ref T) kV doc pm an (.ref cda) ct cc) ⟨[.ref x, u], []⟩ = seqItems? (.ref T) >>= k ∧ k (some #[.none]) = pure [(Str.ofString "self", .ref x), (kP, u), (kA, .none)] := ⟨_, rfl, rfl⟩
      obtain ⟨k, e1, e2⟩ := hk
      refine BindsTo.of_looks fun M => ?_
      rw [e1]
      exact looks_items MO.kin lT rfl (.of_pure e2))
end
end E1

namespace E1
open PySem PySem.Spec PyProof.Rows L2
theorem up {x : Nat} {a b : Nat} (h : x < 2 ^ a) (l : a ≤ b) : x < 2 ^ b := Nat.lt_of_lt_of_le h (Nat.pow_le_pow_right (by decide) l)
theorem iteC {c d : Bool} {A B : Prop} (e : c = d) (h : if d = true then A else B) : if c = true then A else B := e ▸ h
theorem Same.free {H H' : Hp} {p : Addr} (s : Same H H') (h : H' p = none) : H p = none := by
  cases e : H p with
  | none => rfl
  | some o =>
    rw [s _ _ e] at h
    cases h
structure Zs (mg : Str → Option Value) : Prop where
  len : mg "len" = none
  int : mg "int" = none
  isinstance : mg "isinstance" = none
  enumerate : mg "enumerate" = none
  range : mg "range" = none
  ValueError : mg "ValueError" = none
  KeyError : mg "KeyError" = none
abbrev NM : List Str := ["NoFraction", "BadForm", "Unfit", "NoMatrix", "NoSeries", "NotStill", "TooSlow", "BadNet", "BadState", "NoTurn", "NoWords", "TooMany", "NoState", "NotFree", "NoChoice", "NoText", "NoLine", "NoName"]
/-- the classes, in the order of the marks -/
structure Tbl (K : PySem.W.Frag) (mg : Str → Option Value) (Ca : Nat → Addr) : Prop where
  gl : ∀ i x, NM[i]? = some x → mg x = some (.ref (Ca i))
  kit : ∀ i j, i < 18 → j < 18 → PySem.W.kitOne K (.ref (Ca i)) (.ref (Ca j)) = some (decide (i = j))
theorem onlyR {C : Addr} : ∀ u, RelV (.ref C) u → u = .ref C := fun _ h => h
theorem onlyT {n : String} : ∀ u, RelV (.ty n) u → u = .type n := fun _ h => h
theorem IsE.same {K : PySem.W.Frag} {H H' : Hp} {C a : Addr} (h : IsE K H C a) (s : Same H H') : IsE K H' C a := by
  obtain ⟨x, d, e, f⟩ := h
  exact ⟨x, d, s _ _ e, fun dd z => by
    obtain ⟨fs, q⟩ := f dd z
    exact ⟨fs, s _ _ q⟩⟩
/-- the marks of an error of the i-th class -/
def mks (i : Nat) : List V := (List.range 18).map fun j => V.bl (decide (i = j))
def spMarks (K : PySem.W.Frag) (Ca : Nat → Addr) : Sp := fun vs H Q _ => ∃ (a : Addr) (i : Nat), vs = [.ref a] ∧ i < 18 ∧ IsE K H (Ca i) a ∧ ∀ p H', Same H H' → H p = none → H' p = some (.lst (mks i)) → Q (.ref p) H'
section
variable {P : Program} {w : World} {K : PySem.W.Frag} {mg : Str → Option Value} {base : Heap}
theorem sc__law_marks : FnScope ["_law_e", "_law_some"] ["_law_e"] (defScope s__law_marks) := ⟨rfl, rfl, rfl, by decide +kernel, rfl, by decide +kernel, by decide +kernel⟩
theorem ok__law_marks {f : Addr} {fd : FuncData} {Ca : Nat → Addr} (F : Fun K "_law_marks" "_law_marks" s__law_marks f fd) (z : Zs mg) (T : Tbl K mg Ca) : FnOk P w K mg base CX0 (k + 1) f fd ["_law_e"] (spMarks K Ca) := by
  refine F.ok sc__law_marks (fun vs H Q E h => ?_) (fun cdv A outer s H vs Q E hr h => ?_)
  · obtain ⟨a, i, rfl, _⟩ := h
    rfl
  · obtain ⟨a, i, rfl, hi, ie, q⟩ := h
    refine ⟨_, (pss_cons (ps_set (i := 1) sc__law_marks.nd rfl (.inl rfl) (pe_lst (pa_cons (pe_callB call_isO (by rfl) z.isinstance (by decide +kernel) (pa_cons (pv 0) (pa_cons (pe_glob (v := .ref (Ca 0)) (by rfl) (T.gl 0 _ rfl) rfl) pa_nil))) (pa_cons (pe_callB call_isO (by rfl) z.isinstance (by decide +kernel) (pa_cons (pv 0) (pa_cons (pe_glob (v := .ref (Ca 1)) (by rfl) (T.gl 1 _ rfl) rfl) pa_nil))) (pa_cons (pe_callB call_isO (by rfl) z.isinstance (by decide +kernel) (pa_cons (pv 0) (pa_cons (pe_glob (v := .ref (Ca 2)) (by rfl) (T.gl 2 _ rfl) rfl) pa_nil))) (pa_cons (pe_callB call_isO (by rfl) z.isinstance (by decide +kernel) (pa_cons (pv 0) (pa_cons (pe_glob (v := .ref (Ca 3)) (by rfl) (T.gl 3 _ rfl) rfl) pa_nil))) pa_nil))))))
      (pss_cons (ps_set (i := 1) sc__law_marks.nd rfl (.inl rfl) (pe_op op_cat (pv 1) (pe_lst (pa_cons (pe_callB call_isO (by rfl) z.isinstance (by decide +kernel) (pa_cons (pv 0) (pa_cons (pe_glob (v := .ref (Ca 4)) (by rfl) (T.gl 4 _ rfl) rfl) pa_nil))) (pa_cons (pe_callB call_isO (by rfl) z.isinstance (by decide +kernel) (pa_cons (pv 0) (pa_cons (pe_glob (v := .ref (Ca 5)) (by rfl) (T.gl 5 _ rfl) rfl) pa_nil))) (pa_cons (pe_callB call_isO (by rfl) z.isinstance (by decide +kernel) (pa_cons (pv 0) (pa_cons (pe_glob (v := .ref (Ca 6)) (by rfl) (T.gl 6 _ rfl) rfl) pa_nil))) (pa_cons (pe_callB call_isO (by rfl) z.isinstance (by decide +kernel) (pa_cons (pv 0) (pa_cons (pe_glob (v := .ref (Ca 7)) (by rfl) (T.gl 7 _ rfl) rfl) pa_nil))) pa_nil)))))))
      (pss_cons (ps_set (i := 1) sc__law_marks.nd rfl (.inl rfl) (pe_op op_cat (pv 1) (pe_lst (pa_cons (pe_callB call_isO (by rfl) z.isinstance (by decide +kernel) (pa_cons (pv 0) (pa_cons (pe_glob (v := .ref (Ca 8)) (by rfl) (T.gl 8 _ rfl) rfl) pa_nil))) (pa_cons (pe_callB call_isO (by rfl) z.isinstance (by decide +kernel) (pa_cons (pv 0) (pa_cons (pe_glob (v := .ref (Ca 9)) (by rfl) (T.gl 9 _ rfl) rfl) pa_nil))) (pa_cons (pe_callB call_isO (by rfl) z.isinstance (by decide +kernel) (pa_cons (pv 0) (pa_cons (pe_glob (v := .ref (Ca 10)) (by rfl) (T.gl 10 _ rfl) rfl) pa_nil))) (pa_cons (pe_callB call_isO (by rfl) z.isinstance (by decide +kernel) (pa_cons (pv 0) (pa_cons (pe_glob (v := .ref (Ca 11)) (by rfl) (T.gl 11 _ rfl) rfl) pa_nil))) pa_nil)))))))
      (pss_cons (ps_set (i := 1) sc__law_marks.nd rfl (.inl rfl) (pe_op op_cat (pv 1) (pe_lst (pa_cons (pe_callB call_isO (by rfl) z.isinstance (by decide +kernel) (pa_cons (pv 0) (pa_cons (pe_glob (v := .ref (Ca 12)) (by rfl) (T.gl 12 _ rfl) rfl) pa_nil))) (pa_cons (pe_callB call_isO (by rfl) z.isinstance (by decide +kernel) (pa_cons (pv 0) (pa_cons (pe_glob (v := .ref (Ca 13)) (by rfl) (T.gl 13 _ rfl) rfl) pa_nil))) (pa_cons (pe_callB call_isO (by rfl) z.isinstance (by decide +kernel) (pa_cons (pv 0) (pa_cons (pe_glob (v := .ref (Ca 14)) (by rfl) (T.gl 14 _ rfl) rfl) pa_nil))) (pa_cons (pe_callB call_isO (by rfl) z.isinstance (by decide +kernel) (pa_cons (pv 0) (pa_cons (pe_glob (v := .ref (Ca 15)) (by rfl) (T.gl 15 _ rfl) rfl) pa_nil))) pa_nil)))))))
      (pss_one (ps_ret (pe_op op_cat (pv 1) (pe_lst (pa_cons (pe_callB call_isO (by rfl) z.isinstance (by decide +kernel) (pa_cons (pv 0) (pa_cons (pe_glob (v := .ref (Ca 16)) (by rfl) (T.gl 16 _ rfl) rfl) pa_nil))) (pa_cons (pe_callB call_isO (by rfl) z.isinstance (by decide +kernel) (pa_cons (pv 0) (pa_cons (pe_glob (v := .ref (Ca 17)) (by rfl) (T.gl 17 _ rfl) rfl) pa_nil))) pa_nil)))))))))), ?_⟩
    refine ⟨_, rfl, a, Ca i, _, _, _, rfl, ie, onlyR, T.kit i 0 hi (by decide), _, rfl, a, Ca i, _, _, _, rfl, ie, onlyR, T.kit i 1 hi (by decide), _, rfl, a, Ca i, _, _, _, rfl, ie, onlyR, T.kit i 2 hi (by decide), _, rfl, a, Ca i, _, _, _, rfl, ie, onlyR, T.kit i 3 hi (by decide), (by show 4 ≤ sizeLine; decide), fun p1 hp1 => ?_⟩
    have s1 : Same H (upd H p1 (.lst [V.bl (decide (i = 0)), V.bl (decide (i = 1)), V.bl (decide (i = 2)), V.bl (decide (i = 3))])) := same_new hp1
    have g1 : (upd H p1 (.lst [V.bl (decide (i = 0)), V.bl (decide (i = 1)), V.bl (decide (i = 2)), V.bl (decide (i = 3))])) p1 = some (.lst [V.bl (decide (i = 0)), V.bl (decide (i = 1)), V.bl (decide (i = 2)), V.bl (decide (i = 3))]) := upd_same
    generalize upd H p1 (.lst [V.bl (decide (i = 0)), V.bl (decide (i = 1)), V.bl (decide (i = 2)), V.bl (decide (i = 3))]) = G1 at s1 g1 ⊢

    refine ⟨_, rfl, _, rfl, a, Ca i, _, _, _, rfl, (ie.same s1), onlyR, T.kit i 4 hi (by decide), _, rfl, a, Ca i, _, _, _, rfl, (ie.same s1), onlyR, T.kit i 5 hi (by decide), _, rfl, a, Ca i, _, _, _, rfl, (ie.same s1), onlyR, T.kit i 6 hi (by decide), _, rfl, a, Ca i, _, _, _, rfl, (ie.same s1), onlyR, T.kit i 7 hi (by decide), (by show 4 ≤ sizeLine; decide), fun q1 hq1 => ?_⟩
    have t1 : Same G1 (upd G1 q1 (.lst [V.bl (decide (i = 4)), V.bl (decide (i = 5)), V.bl (decide (i = 6)), V.bl (decide (i = 7))])) := same_new hq1
    refine ⟨p1, q1, _, _, rfl, rfl, t1 _ _ g1, upd_same, (by show 8 ≤ sizeLine; decide), fun p2 hp2 => ?_⟩
    have s2 : Same H (upd (upd G1 q1 (.lst [V.bl (decide (i = 4)), V.bl (decide (i = 5)), V.bl (decide (i = 6)), V.bl (decide (i = 7))])) p2 (.lst ([V.bl (decide (i = 0)), V.bl (decide (i = 1)), V.bl (decide (i = 2)), V.bl (decide (i = 3))] ++ [V.bl (decide (i = 4)), V.bl (decide (i = 5)), V.bl (decide (i = 6)), V.bl (decide (i = 7))]))) := (s1.trans t1).trans (same_new hp2)
    have g2 : (upd (upd G1 q1 (.lst [V.bl (decide (i = 4)), V.bl (decide (i = 5)), V.bl (decide (i = 6)), V.bl (decide (i = 7))])) p2 (.lst ([V.bl (decide (i = 0)), V.bl (decide (i = 1)), V.bl (decide (i = 2)), V.bl (decide (i = 3))] ++ [V.bl (decide (i = 4)), V.bl (decide (i = 5)), V.bl (decide (i = 6)), V.bl (decide (i = 7))]))) p2 = some (.lst ([V.bl (decide (i = 0)), V.bl (decide (i = 1)), V.bl (decide (i = 2)), V.bl (decide (i = 3))] ++ [V.bl (decide (i = 4)), V.bl (decide (i = 5)), V.bl (decide (i = 6)), V.bl (decide (i = 7))])) := upd_same
    generalize upd (upd G1 q1 (.lst [V.bl (decide (i = 4)), V.bl (decide (i = 5)), V.bl (decide (i = 6)), V.bl (decide (i = 7))])) p2 (.lst ([V.bl (decide (i = 0)), V.bl (decide (i = 1)), V.bl (decide (i = 2)), V.bl (decide (i = 3))] ++ [V.bl (decide (i = 4)), V.bl (decide (i = 5)), V.bl (decide (i = 6)), V.bl (decide (i = 7))])) = G2 at s2 g2 ⊢
    refine ⟨_, rfl, _, rfl, a, Ca i, _, _, _, rfl, (ie.same s2), onlyR, T.kit i 8 hi (by decide), _, rfl, a, Ca i, _, _, _, rfl, (ie.same s2), onlyR, T.kit i 9 hi (by decide), _, rfl, a, Ca i, _, _, _, rfl, (ie.same s2), onlyR, T.kit i 10 hi (by decide), _, rfl, a, Ca i, _, _, _, rfl, (ie.same s2), onlyR, T.kit i 11 hi (by decide), (by show 4 ≤ sizeLine; decide), fun q2 hq2 => ?_⟩
    have t2 : Same G2 (upd G2 q2 (.lst [V.bl (decide (i = 8)), V.bl (decide (i = 9)), V.bl (decide (i = 10)), V.bl (decide (i = 11))])) := same_new hq2
    refine ⟨p2, q2, _, _, rfl, rfl, t2 _ _ g2, upd_same, (by show 12 ≤ sizeLine; decide), fun p3 hp3 => ?_⟩
    have s3 : Same H (upd (upd G2 q2 (.lst [V.bl (decide (i = 8)), V.bl (decide (i = 9)), V.bl (decide (i = 10)), V.bl (decide (i = 11))])) p3 (.lst (([V.bl (decide (i = 0)), V.bl (decide (i = 1)), V.bl (decide (i = 2)), V.bl (decide (i = 3))] ++ [V.bl (decide (i = 4)), V.bl (decide (i = 5)), V.bl (decide (i = 6)), V.bl (decide (i = 7))]) ++ [V.bl (decide (i = 8)), V.bl (decide (i = 9)), V.bl (decide (i = 10)), V.bl (decide (i = 11))]))) := (s2.trans t2).trans (same_new hp3)
    have g3 : (upd (upd G2 q2 (.lst [V.bl (decide (i = 8)), V.bl (decide (i = 9)), V.bl (decide (i = 10)), V.bl (decide (i = 11))])) p3 (.lst (([V.bl (decide (i = 0)), V.bl (decide (i = 1)), V.bl (decide (i = 2)), V.bl (decide (i = 3))] ++ [V.bl (decide (i = 4)), V.bl (decide (i = 5)), V.bl (decide (i = 6)), V.bl (decide (i = 7))]) ++ [V.bl (decide (i = 8)), V.bl (decide (i = 9)), V.bl (decide (i = 10)), V.bl (decide (i = 11))]))) p3 = some (.lst (([V.bl (decide (i = 0)), V.bl (decide (i = 1)), V.bl (decide (i = 2)), V.bl (decide (i = 3))] ++ [V.bl (decide (i = 4)), V.bl (decide (i = 5)), V.bl (decide (i = 6)), V.bl (decide (i = 7))]) ++ [V.bl (decide (i = 8)), V.bl (decide (i = 9)), V.bl (decide (i = 10)), V.bl (decide (i = 11))])) := upd_same
    generalize upd (upd G2 q2 (.lst [V.bl (decide (i = 8)), V.bl (decide (i = 9)), V.bl (decide (i = 10)), V.bl (decide (i = 11))])) p3 (.lst (([V.bl (decide (i = 0)), V.bl (decide (i = 1)), V.bl (decide (i = 2)), V.bl (decide (i = 3))] ++ [V.bl (decide (i = 4)), V.bl (decide (i = 5)), V.bl (decide (i = 6)), V.bl (decide (i = 7))]) ++ [V.bl (decide (i = 8)), V.bl (decide (i = 9)), V.bl (decide (i = 10)), V.bl (decide (i = 11))])) = G3 at s3 g3 ⊢
    refine ⟨_, rfl, _, rfl, a, Ca i, _, _, _, rfl, (ie.same s3), onlyR, T.kit i 12 hi (by decide), _, rfl, a, Ca i, _, _, _, rfl, (ie.same s3), onlyR, T.kit i 13 hi (by decide), _, rfl, a, Ca i, _, _, _, rfl, (ie.same s3), onlyR, T.kit i 14 hi (by decide), _, rfl, a, Ca i, _, _, _, rfl, (ie.same s3), onlyR, T.kit i 15 hi (by decide), (by show 4 ≤ sizeLine; decide), fun q3 hq3 => ?_⟩
    have t3 : Same G3 (upd G3 q3 (.lst [V.bl (decide (i = 12)), V.bl (decide (i = 13)), V.bl (decide (i = 14)), V.bl (decide (i = 15))])) := same_new hq3
    refine ⟨p3, q3, _, _, rfl, rfl, t3 _ _ g3, upd_same, (by show 16 ≤ sizeLine; decide), fun p4 hp4 => ?_⟩
    have s4 : Same H (upd (upd G3 q3 (.lst [V.bl (decide (i = 12)), V.bl (decide (i = 13)), V.bl (decide (i = 14)), V.bl (decide (i = 15))])) p4 (.lst ((([V.bl (decide (i = 0)), V.bl (decide (i = 1)), V.bl (decide (i = 2)), V.bl (decide (i = 3))] ++ [V.bl (decide (i = 4)), V.bl (decide (i = 5)), V.bl (decide (i = 6)), V.bl (decide (i = 7))]) ++ [V.bl (decide (i = 8)), V.bl (decide (i = 9)), V.bl (decide (i = 10)), V.bl (decide (i = 11))]) ++ [V.bl (decide (i = 12)), V.bl (decide (i = 13)), V.bl (decide (i = 14)), V.bl (decide (i = 15))]))) := (s3.trans t3).trans (same_new hp4)
    have g4 : (upd (upd G3 q3 (.lst [V.bl (decide (i = 12)), V.bl (decide (i = 13)), V.bl (decide (i = 14)), V.bl (decide (i = 15))])) p4 (.lst ((([V.bl (decide (i = 0)), V.bl (decide (i = 1)), V.bl (decide (i = 2)), V.bl (decide (i = 3))] ++ [V.bl (decide (i = 4)), V.bl (decide (i = 5)), V.bl (decide (i = 6)), V.bl (decide (i = 7))]) ++ [V.bl (decide (i = 8)), V.bl (decide (i = 9)), V.bl (decide (i = 10)), V.bl (decide (i = 11))]) ++ [V.bl (decide (i = 12)), V.bl (decide (i = 13)), V.bl (decide (i = 14)), V.bl (decide (i = 15))]))) p4 = some (.lst ((([V.bl (decide (i = 0)), V.bl (decide (i = 1)), V.bl (decide (i = 2)), V.bl (decide (i = 3))] ++ [V.bl (decide (i = 4)), V.bl (decide (i = 5)), V.bl (decide (i = 6)), V.bl (decide (i = 7))]) ++ [V.bl (decide (i = 8)), V.bl (decide (i = 9)), V.bl (decide (i = 10)), V.bl (decide (i = 11))]) ++ [V.bl (decide (i = 12)), V.bl (decide (i = 13)), V.bl (decide (i = 14)), V.bl (decide (i = 15))])) := upd_same
    generalize upd (upd G3 q3 (.lst [V.bl (decide (i = 12)), V.bl (decide (i = 13)), V.bl (decide (i = 14)), V.bl (decide (i = 15))])) p4 (.lst ((([V.bl (decide (i = 0)), V.bl (decide (i = 1)), V.bl (decide (i = 2)), V.bl (decide (i = 3))] ++ [V.bl (decide (i = 4)), V.bl (decide (i = 5)), V.bl (decide (i = 6)), V.bl (decide (i = 7))]) ++ [V.bl (decide (i = 8)), V.bl (decide (i = 9)), V.bl (decide (i = 10)), V.bl (decide (i = 11))]) ++ [V.bl (decide (i = 12)), V.bl (decide (i = 13)), V.bl (decide (i = 14)), V.bl (decide (i = 15))])) = G4 at s4 g4 ⊢
    refine ⟨_, rfl, _, rfl, a, Ca i, _, _, _, rfl, (ie.same s4), onlyR, T.kit i 16 hi (by decide), _, rfl, a, Ca i, _, _, _, rfl, (ie.same s4), onlyR, T.kit i 17 hi (by decide), (by show 2 ≤ sizeLine; decide), fun q4 hq4 => ?_⟩
    have t4 : Same G4 (upd G4 q4 (.lst [V.bl (decide (i = 16)), V.bl (decide (i = 17))])) := same_new hq4
    refine ⟨p4, q4, _, _, rfl, rfl, t4 _ _ g4, upd_same, (by show 18 ≤ sizeLine; decide), fun p5 hp5 => ?_⟩
    have s5 : Same H (upd (upd G4 q4 (.lst [V.bl (decide (i = 16)), V.bl (decide (i = 17))])) p5 (.lst (((([V.bl (decide (i = 0)), V.bl (decide (i = 1)), V.bl (decide (i = 2)), V.bl (decide (i = 3))] ++ [V.bl (decide (i = 4)), V.bl (decide (i = 5)), V.bl (decide (i = 6)), V.bl (decide (i = 7))]) ++ [V.bl (decide (i = 8)), V.bl (decide (i = 9)), V.bl (decide (i = 10)), V.bl (decide (i = 11))]) ++ [V.bl (decide (i = 12)), V.bl (decide (i = 13)), V.bl (decide (i = 14)), V.bl (decide (i = 15))]) ++ [V.bl (decide (i = 16)), V.bl (decide (i = 17))]))) := (s4.trans t4).trans (same_new hp5)
    have g5 : (upd (upd G4 q4 (.lst [V.bl (decide (i = 16)), V.bl (decide (i = 17))])) p5 (.lst (((([V.bl (decide (i = 0)), V.bl (decide (i = 1)), V.bl (decide (i = 2)), V.bl (decide (i = 3))] ++ [V.bl (decide (i = 4)), V.bl (decide (i = 5)), V.bl (decide (i = 6)), V.bl (decide (i = 7))]) ++ [V.bl (decide (i = 8)), V.bl (decide (i = 9)), V.bl (decide (i = 10)), V.bl (decide (i = 11))]) ++ [V.bl (decide (i = 12)), V.bl (decide (i = 13)), V.bl (decide (i = 14)), V.bl (decide (i = 15))]) ++ [V.bl (decide (i = 16)), V.bl (decide (i = 17))]))) p5 = some (.lst (((([V.bl (decide (i = 0)), V.bl (decide (i = 1)), V.bl (decide (i = 2)), V.bl (decide (i = 3))] ++ [V.bl (decide (i = 4)), V.bl (decide (i = 5)), V.bl (decide (i = 6)), V.bl (decide (i = 7))]) ++ [V.bl (decide (i = 8)), V.bl (decide (i = 9)), V.bl (decide (i = 10)), V.bl (decide (i = 11))]) ++ [V.bl (decide (i = 12)), V.bl (decide (i = 13)), V.bl (decide (i = 14)), V.bl (decide (i = 15))]) ++ [V.bl (decide (i = 16)), V.bl (decide (i = 17))])) := upd_same
    exact q p5 _ s5 ((s4.trans t4).free hp5) g5
end
end E1

namespace E1
open PySem PySem.Spec PyProof.Rows L2
/-- a class with an own __init__ -/
structure IniE (P : Program) (w : World) (K : PySem.W.Frag) (mg : Str → Option Value) (x : Str) (C : Addr) (B : Bd) (fl : List Str) : Prop where
  ec : PySem.ErrX.ErrC K mg x C
  io : ∃ fI, IniF P w K mg C fI B
  no : ∀ f ∈ fl, PySem.W.findIn K (.ref C) f = some none
theorem pe_erVE {X : Cx} {C : Addr} {x : Str} {B : Bd} {fl : List Str} {k : Nat} {e : Expr} {es : List Expr} {t : TA} {p pos : Pos} (h : IniE X.prog X.w X.K X.mg x C B fl) (hr : Room k X.A) (ha : PA X (e :: es) t) (hg : Gl X x := by rfl)
    (hdb : (x == ("__debug__" : Str)) = false := by decide) (he : starEach (e :: es) X.env = (false, eval e X.env) :: starEach es X.env := by rfl) (hpl : (backTo pos (starEach es X.env)).any (·.1) = false := by rfl) :
    PE X (.Call (.Name x p) (e :: es) [] pos) (tErV C B [] t tNil) := by
  obtain ⟨fI, io⟩ := h.io
  exact pe_erV (kws := []) (tk := tNil) (ns := []) h.ec io hr ha hg hdb he hpl
theorem pe_erKE {X : Cx} {C : Addr} {x : Str} {B : Bd} {fl : List Str} {k : Nat} {ns : List Str} {kws : List Keyword} {tk : TA} {p pos : Pos} (h : IniE X.prog X.w X.K X.mg x C B fl) (hr : Room k X.A) (hkw : PK X kws tk) (hg : Gl X x := by rfl)
    (hall : (backToKw pos (keywordEach kws X.env)).all (·.1.isSome) = true := by rfl) (hks : (backToKw pos (keywordEach kws X.env)).filterMap (·.1) = ns := by rfl)
    (hdb : (x == ("__debug__" : Str)) = false := by decide)
    (hpl : ((backTo pos (starEach [] X.env)).any (·.1) || (backToKw pos (keywordEach kws X.env)).any (·.1.isNone)) = false := by rfl) :
    PE X (.Call (.Name x p) [] kws pos) (tErV C B ns tNil tk) := by
  obtain ⟨fI, io⟩ := h.io
  exact pe_erK h.ec io hr hkw hg hall hks hdb hpl
/-- all classes -/
structure Errs10 (P : Program) (w : World) (K : PySem.W.Frag) (mg : Str → Option Value) (Ca : Nat → Addr) (CE : Addr) : Prop extends Tbl K mg Ca where
  xc : ∀ i, i < 18 → ExcC K (Ca i)
  x0 : ExP K mg "NoFraction" (Ca 0)
  x3 : ExP K mg "NoMatrix" (Ca 3)
  x4 : ExP K mg "NoSeries" (Ca 4)
  x8 : ExP K mg "BadState" (Ca 8)
  x10 : ExP K mg "NoWords" (Ca 10)
  x12 : ExP K mg "NoState" (Ca 12)
  x14 : ExP K mg "NoChoice" (Ca 14)
  x16 : ExP K mg "NoLine" (Ca 16)
  x1 : IniE P w K mg "BadForm" (Ca 1) (B1 "part" none) ["part"]
  x2 : IniE P w K mg "Unfit" (Ca 2) (B1 "at" (some (.int 0))) ["at"]
  x6 : IniE P w K mg "TooSlow" (Ca 6) (B1 "many" none) ["many"]
  x9 : IniE P w K mg "NoTurn" (Ca 9) (B1 "many" none) ["many"]
  x11 : IniE P w K mg "TooMany" (Ca 11) (B1 "many" none) ["many"]
  x13 : IniE P w K mg "NotFree" (Ca 13) (B1 "row" none) ["row"]
  x15 : IniE P w K mg "NoText" (Ca 15) (B1 "line" (some (.int 0))) ["line"]
  x17 : IniE P w K mg "NoName" (Ca 17) (B1 "name" none) ["name"]
  x5 : IniE P w K mg "NotStill" (Ca 5) (B1a "paper") ["paper"]
  x7 : IniE P w K mg "BadNet" (Ca 7) B2 ["part", "at"]
  xE : ExP K mg "EchoError" CE
  xcE : ExcC K CE
  kE : ∀ i, i < 18 → PySem.W.kitOne K (.ref (Ca i)) (.ref CE) = some true
  kA : ∀ i, i < 18 → PySem.W.kitOne K (.ref (Ca i)) (.type "ArithmeticError") = some true
  kV : ∀ i, i < 18 → PySem.W.kitAny K (.ref (Ca i)) [.type "ValueError", .type "KeyError"] = some false
  k2 : PySem.W.kitAny K (.ref CE) [.ref (Ca 0), .ref (Ca 8)] = some false
  k3 : PySem.W.kitOne K (.ref CE) (.type "ArithmeticError") = some true
  zA : mg "ArithmeticError" = none
theorem fresh0 {K : PySem.W.Frag} {H G : Hp} {C a : Addr} (xc : ExcC K C) (h : H a = none) (e : upd H a (ErO C none a) = G) : Same H G ∧ IsE K G C a := by
  subst e
  exact ⟨same_new h, xc, none, upd_same, fun _ z => nomatch z⟩
theorem fresh2 {K : PySem.W.Frag} {H G : Hp} {C a d : Addr} {fs : List (Str × V)} (xc : ExcC K C) (h : H a = none) (hd : H d = none) (ne : d ≠ a) (e : upd (upd H d (.xd fs)) a (ErO C (some d) a) = G) : Same H G ∧ IsE K G C a ∧ G a = some (ErO C (some d) a) ∧ G d = some (.xd fs) := by
  subst e
  have h1 : (upd (upd H d (.xd fs)) a (ErO C (some d) a)) a = some (ErO C (some d) a) := upd_same
  have h2 : (upd (upd H d (.xd fs)) a (ErO C (some d) a)) d = some (.xd fs) := by
    rw [upd_ne ne]
    exact upd_same
  refine ⟨(same_new hd).trans (same_new ?_), ⟨xc, some d, h1, fun dd z => ?_⟩, h1, h2⟩
  · rw [upd_ne (Ne.symm ne)]
    exact h
  · cases z
    exact ⟨_, h2⟩
theorem len_int {i : Int} (h0 : 0 ≤ i) (h : i < 10000000000) : (toString i : String).length ≤ 1000 ∧ i.natAbs.log2 < 1920 := by
  obtain ⟨n, rfl⟩ := Int.eq_ofNat_of_zero_le h0
  have hn : n < 2 ^ 40 := by
    have : n < 10000000000 := by omega
    exact Nat.lt_trans this (by decide)
  constructor
  · show (n.repr).length ≤ 1000
    exact Nat.le_trans (nat_repr_length_le (k := 40) (by decide) hn) (by decide)
  · show n.log2 < 1920
    by_cases z : n = 0
    · subst z
      decide
    · exact Nat.lt_trans ((Nat.log2_lt z).mpr hn) (by decide)
def Nm (v : V) : Prop := ∃ i : Int, v = .int i ∧ 0 ≤ i ∧ i < 10000000000
/-- a short text -/
def Sh (v : V) : Prop := ∃ x : Str, v = .str x ∧ x.length ≤ 900
theorem Sh.fmt {v : V} (h : Sh v) : VFmt v := by
  obtain ⟨x, e, l⟩ := h
  exact .inl ⟨x, e, Nat.le_trans l (by decide)⟩
theorem Nm.fmt {v : V} (h : Nm v) : VFmt v := by
  obtain ⟨i, rfl, h0, h1⟩ := h
  exact .inr ⟨i, rfl, (len_int h0 h1).2, (len_int h0 h1).1⟩
def spMade (K : PySem.W.Frag) (Ca : Nat → Addr) : Sp := fun vs H Q _ => ∃ (po on tw sh : V), vs = [po, on, tw, sh] ∧ Sh po ∧ Nm on ∧ Nm tw ∧
  ∀ p (es : List Addr) H', Same H H' → H p = none → H' p = some (.lst (es.map V.ref)) → es.length = 18 → (∀ i a, es[i]? = some a → IsE K H' (Ca i) a) → Q (.ref p) H'
section
variable {P : Program} {w : World} {K : PySem.W.Frag} {mg : Str → Option Value} {base : Heap}
theorem sc__law_made : FnScope ["_law_portion", "_law_one", "_law_two", "_law_sheet", "_law_some"] ["_law_portion", "_law_one", "_law_two", "_law_sheet"] (defScope s__law_made) := ⟨rfl, rfl, rfl, by decide +kernel, rfl, by decide +kernel, by decide +kernel⟩
theorem ok__law_made {f : Addr} {fd : FuncData} {Ca : Nat → Addr} {CE : Addr} (F : Fun K "_law_made" "_law_made" s__law_made f fd) (T : Errs10 P w K mg Ca CE) : FnOk P w K mg base CX0 (k + 1) f fd ["_law_portion", "_law_one", "_law_two", "_law_sheet"] (spMade K Ca) := by
  refine F.ok sc__law_made (fun vs H Q E h => ?_) (fun cdv A outer s H vs Q E hr h => ?_)
  · obtain ⟨po, on, tw, sh, rfl, _⟩ := h
    rfl
  · obtain ⟨po, on, tw, sh, rfl, hpo, hon, htw, q⟩ := h
    refine ⟨_, (pss_cons (ps_set (i := 4) sc__law_made.nd rfl (.inl rfl) (pe_lst (pa_cons (pe_exV0 T.x0) (pa_cons (pe_erVE T.x1 hr (pa_cons (pv 0) pa_nil)) (pa_cons (pe_erVE T.x2 hr (pa_cons (pv 1) pa_nil)) (pa_cons (pe_exV0 T.x3) (pa_cons (pe_exV0 T.x4) (pa_cons (pe_erVE T.x5 hr (pa_cons (pv 3) pa_nil)) (pa_cons (pe_erVE T.x6 hr (pa_cons (pv 1) pa_nil)) pa_nil)))))))))
      (pss_cons (ps_set (i := 4) sc__law_made.nd rfl (.inl rfl) (pe_op op_cat (pv 4) (pe_lst (pa_cons (pe_erVE T.x7 hr (pa_cons (pv 0) (pa_cons (pv 2) pa_nil))) (pa_cons (pe_exV0 T.x8) (pa_cons (pe_erVE T.x9 hr (pa_cons (pv 2) pa_nil)) (pa_cons (pe_exV0 T.x10) (pa_cons (pe_erVE T.x11 hr (pa_cons (pv 1) pa_nil)) (pa_cons (pe_exV0 T.x12) (pa_cons (pe_erVE T.x13 hr (pa_cons (pv 2) pa_nil)) pa_nil))))))))))
      (pss_one (ps_ret (pe_op op_cat (pv 4) (pe_lst (pa_cons (pe_exV0 T.x14) (pa_cons (pe_erVE T.x15 hr (pa_cons (pv 2) pa_nil)) (pa_cons (pe_exV0 T.x16) (pa_cons (pe_erVE T.x17 hr (pa_cons (pv 0) pa_nil)) pa_nil)))))))))), ?_⟩
    refine ⟨(by decide), fun a0 h0 => ?_⟩
    generalize hU : upd _ a0 _ = G0
    obtain ⟨n0, i0⟩ := fresh0 (T.xc 0 (by decide)) h0 hU
    clear hU
    refine ⟨_, rfl, rfl, _, ⟨_, hpo.fmt, rfl, .inl ⟨rfl, rfl⟩⟩, fun a1 d1 h1 hd1 ne1 => ?_⟩
    generalize hU : upd _ a1 _ = G1
    obtain ⟨n1, i1, -, -⟩ := fresh2 (T.xc 1 (by decide)) h1 hd1 ne1 hU
    clear hU
    refine ⟨_, rfl, rfl, _, ⟨_, hon.fmt, rfl, .inl ⟨rfl, rfl⟩⟩, fun a2 d2 h2 hd2 ne2 => ?_⟩
    generalize hU : upd _ a2 _ = G2
    obtain ⟨n2, i2, -, -⟩ := fresh2 (T.xc 2 (by decide)) h2 hd2 ne2 hU
    clear hU
    refine ⟨(by decide), fun a3 h3 => ?_⟩
    generalize hU : upd _ a3 _ = G3
    obtain ⟨n3, i3⟩ := fresh0 (T.xc 3 (by decide)) h3 hU
    clear hU
    refine ⟨(by decide), fun a4 h4 => ?_⟩
    generalize hU : upd _ a4 _ = G4
    obtain ⟨n4, i4⟩ := fresh0 (T.xc 4 (by decide)) h4 hU
    clear hU
    refine ⟨_, rfl, rfl, _, ⟨_, rfl, .inl ⟨rfl, rfl⟩⟩, fun a5 d5 h5 hd5 ne5 => ?_⟩
    generalize hU : upd _ a5 _ = G5
    obtain ⟨n5, i5, -, -⟩ := fresh2 (T.xc 5 (by decide)) h5 hd5 ne5 hU
    clear hU
    refine ⟨_, rfl, rfl, _, ⟨_, hon.fmt, rfl, .inl ⟨rfl, rfl⟩⟩, fun a6 d6 h6 hd6 ne6 => ?_⟩
    generalize hU : upd _ a6 _ = G6
    obtain ⟨n6, i6, -, -⟩ := fresh2 (T.xc 6 (by decide)) h6 hd6 ne6 hU
    clear hU
    refine ⟨(by show 7 ≤ sizeLine; decide), fun b0 hb0 => ?_⟩
    generalize hU : upd _ b0 _ = J0
    have m0 : Same G6 J0 := by
      rw [← hU]
      exact same_new hb0
    have l0 : J0 b0 = some (.lst [V.ref a0, V.ref a1, V.ref a2, V.ref a3, V.ref a4, V.ref a5, V.ref a6]) := by
      rw [← hU]
      exact upd_same
    clear hU
    refine ⟨_, rfl, _, rfl, _, rfl, rfl, _, ⟨_, _, .inl hpo.fmt, .inl htw.fmt, rfl, .inl ⟨rfl, rfl⟩⟩, fun a7 d7 h7 hd7 ne7 => ?_⟩
    generalize hU : upd _ a7 _ = G7
    obtain ⟨n7, i7, -, -⟩ := fresh2 (T.xc 7 (by decide)) h7 hd7 ne7 hU
    clear hU
    refine ⟨(by decide), fun a8 h8 => ?_⟩
    generalize hU : upd _ a8 _ = G8
    obtain ⟨n8, i8⟩ := fresh0 (T.xc 8 (by decide)) h8 hU
    clear hU
    refine ⟨_, rfl, rfl, _, ⟨_, htw.fmt, rfl, .inl ⟨rfl, rfl⟩⟩, fun a9 d9 h9 hd9 ne9 => ?_⟩
    generalize hU : upd _ a9 _ = G9
    obtain ⟨n9, i9, -, -⟩ := fresh2 (T.xc 9 (by decide)) h9 hd9 ne9 hU
    clear hU
    refine ⟨(by decide), fun a10 h10 => ?_⟩
    generalize hU : upd _ a10 _ = G10
    obtain ⟨n10, i10⟩ := fresh0 (T.xc 10 (by decide)) h10 hU
    clear hU
    refine ⟨_, rfl, rfl, _, ⟨_, hon.fmt, rfl, .inl ⟨rfl, rfl⟩⟩, fun a11 d11 h11 hd11 ne11 => ?_⟩
    generalize hU : upd _ a11 _ = G11
    obtain ⟨n11, i11, -, -⟩ := fresh2 (T.xc 11 (by decide)) h11 hd11 ne11 hU
    clear hU
    refine ⟨(by decide), fun a12 h12 => ?_⟩
    generalize hU : upd _ a12 _ = G12
    obtain ⟨n12, i12⟩ := fresh0 (T.xc 12 (by decide)) h12 hU
    clear hU
    refine ⟨_, rfl, rfl, _, ⟨_, htw.fmt, rfl, .inl ⟨rfl, rfl⟩⟩, fun a13 d13 h13 hd13 ne13 => ?_⟩
    generalize hU : upd _ a13 _ = G13
    obtain ⟨n13, i13, -, -⟩ := fresh2 (T.xc 13 (by decide)) h13 hd13 ne13 hU
    clear hU
    refine ⟨(by show 7 ≤ sizeLine; decide), fun b1 hb1 => ?_⟩
    generalize hU : upd _ b1 _ = J1
    have m1 : Same G13 J1 := by
      rw [← hU]
      exact same_new hb1
    have l1 : J1 b1 = some (.lst [V.ref a7, V.ref a8, V.ref a9, V.ref a10, V.ref a11, V.ref a12, V.ref a13]) := by
      rw [← hU]
      exact upd_same
    clear hU
    have v1 := ((((((n7.trans n8).trans n9).trans n10).trans n11).trans n12).trans n13).trans m1
    refine ⟨b0, b1, _, _, rfl, rfl, v1 _ _ l0, l1, (by show 14 ≤ sizeLine; decide), fun r1 hr1 => ?_⟩
    generalize hU : upd _ r1 _ = R1
    have w1 : Same J1 R1 := by
      rw [← hU]
      exact same_new hr1
    have k1 : R1 r1 = some (.lst [V.ref a0, V.ref a1, V.ref a2, V.ref a3, V.ref a4, V.ref a5, V.ref a6, V.ref a7, V.ref a8, V.ref a9, V.ref a10, V.ref a11, V.ref a12, V.ref a13]) := by
      rw [← hU]
      exact upd_same
    clear hU
    refine ⟨_, rfl, (by decide), fun a14 h14 => ?_⟩
    generalize hU : upd _ a14 _ = G14
    obtain ⟨n14, i14⟩ := fresh0 (T.xc 14 (by decide)) h14 hU
    clear hU
    refine ⟨_, rfl, rfl, _, ⟨_, htw.fmt, rfl, .inl ⟨rfl, rfl⟩⟩, fun a15 d15 h15 hd15 ne15 => ?_⟩
    generalize hU : upd _ a15 _ = G15
    obtain ⟨n15, i15, -, -⟩ := fresh2 (T.xc 15 (by decide)) h15 hd15 ne15 hU
    clear hU
    refine ⟨(by decide), fun a16 h16 => ?_⟩
    generalize hU : upd _ a16 _ = G16
    obtain ⟨n16, i16⟩ := fresh0 (T.xc 16 (by decide)) h16 hU
    clear hU
    refine ⟨_, rfl, rfl, _, ⟨_, hpo.fmt, rfl, .inl ⟨rfl, rfl⟩⟩, fun a17 d17 h17 hd17 ne17 => ?_⟩
    generalize hU : upd _ a17 _ = G17
    obtain ⟨n17, i17, -, -⟩ := fresh2 (T.xc 17 (by decide)) h17 hd17 ne17 hU
    clear hU
    refine ⟨(by show 4 ≤ sizeLine; decide), fun b2 hb2 => ?_⟩
    generalize hU : upd _ b2 _ = J2
    have m2 : Same G17 J2 := by
      rw [← hU]
      exact same_new hb2
    have l2 : J2 b2 = some (.lst [V.ref a14, V.ref a15, V.ref a16, V.ref a17]) := by
      rw [← hU]
      exact upd_same
    clear hU
    have v2 := (((n14.trans n15).trans n16).trans n17).trans m2
    refine ⟨r1, b2, _, _, rfl, rfl, v2 _ _ k1, l2, (by show 18 ≤ sizeLine; decide), fun r2 hr2 => ?_⟩
    generalize hU : upd _ r2 _ = R2
    have w2 : Same J2 R2 := by
      rw [← hU]
      exact same_new hr2
    have k2 : R2 r2 = some (.lst [V.ref a0, V.ref a1, V.ref a2, V.ref a3, V.ref a4, V.ref a5, V.ref a6, V.ref a7, V.ref a8, V.ref a9, V.ref a10, V.ref a11, V.ref a12, V.ref a13, V.ref a14, V.ref a15, V.ref a16, V.ref a17]) := by
      rw [← hU]
      exact upd_same
    clear hU
    have u18 := m2.trans w2
    have y17 := u18
    have y16 := n17.trans y17
    have y15 := n16.trans y16
    have y14 := n15.trans y15
    have y13 := ((m1.trans w1).trans n14).trans y14
    have y12 := n13.trans y13
    have y11 := n12.trans y12
    have y10 := n11.trans y11
    have y9 := n10.trans y10
    have y8 := n9.trans y9
    have y7 := n8.trans y8
    have y6 := (m0.trans n7).trans y7
    have y5 := n6.trans y6
    have y4 := n5.trans y5
    have y3 := n4.trans y4
    have y2 := n3.trans y3
    have y1 := n2.trans y2
    have y0 := n1.trans y1

    have f0 : Same H J2 := ((((((((((((((((((((n0.trans n1).trans n2).trans n3).trans n4).trans n5).trans n6).trans m0).trans n7).trans n8).trans n9).trans n10).trans n11).trans n12).trans n13).trans m1).trans w1).trans n14).trans n15).trans n16).trans n17).trans m2
    refine q r2 [a0, a1, a2, a3, a4, a5, a6, a7, a8, a9, a10, a11, a12, a13, a14, a15, a16, a17] R2 (n0.trans y0) (f0.free hr2) k2 rfl fun i a h => ?_
    match i, h with
    | 0, h =>
      cases h
      exact i0.same y0
    | 1, h =>
      cases h
      exact i1.same y1
    | 2, h =>
      cases h
      exact i2.same y2
    | 3, h =>
      cases h
      exact i3.same y3
    | 4, h =>
      cases h
      exact i4.same y4
    | 5, h =>
      cases h
      exact i5.same y5
    | 6, h =>
      cases h
      exact i6.same y6
    | 7, h =>
      cases h
      exact i7.same y7
    | 8, h =>
      cases h
      exact i8.same y8
    | 9, h =>
      cases h
      exact i9.same y9
    | 10, h =>
      cases h
      exact i10.same y10
    | 11, h =>
      cases h
      exact i11.same y11
    | 12, h =>
      cases h
      exact i12.same y12
    | 13, h =>
      cases h
      exact i13.same y13
    | 14, h =>
      cases h
      exact i14.same y14
    | 15, h =>
      cases h
      exact i15.same y15
    | 16, h =>
      cases h
      exact i16.same y16
    | 17, h =>
      cases h
      exact i17.same y17
    | i + 18, h => cases h
end
end E1

namespace E1
open PySem PySem.Spec PyProof.Rows L2
theorem ErrC.xf {K : PySem.W.Frag} {mg : Str → Option Value} {C : Addr} {x : Str} (EC : PySem.ErrX.ErrC K mg x C) : XfC K C := ⟨EC.ga, EC.gg, EC.exC, EC.hdC⟩
theorem eqv_of {d : PyData} (h : SeqAt.shaped d = true) : PyData.eqv d d = true := SeqAt.eqv_refl _ (SeqAt.canLay_of_shaped h)
theorem sh1 {x : Str} (ok : PyData.strOk x = true) : SeqAt.shaped (.str x) = true := by
  simp [SeqAt.shaped, PyData.canLay0, PyData.depth, ok]
theorem sh3 {x : Str} (ok : PyData.strOk x = true) : SeqAt.shaped (.list [.str x, .str x, .str x]) = true := by
  simp [SeqAt.shaped, PyData.canLay0, PyData.canLayAll0, PyData.depth, PyData.depthAll, ok]
theorem sh5 {x : Str} (ok : PyData.strOk x = true) (a b c : Int) : SeqAt.shaped (.list [.int a, .int b, .int c, .str x, .str x]) = true := by
  simp [SeqAt.shaped, PyData.canLay0, PyData.canLayAll0, PyData.depth, PyData.depthAll, ok]
theorem shS (k : Int) : SeqAt.shaped (.tuple [.str "ring", .list [.list [.tuple [.int 1, .int k]]]]) = true := by
  have : PyData.strOk "ring" = true := by decide +kernel
  simp [SeqAt.shaped, PyData.canLay0, PyData.canLayAll0, PyData.depth, PyData.depthAll, this]
theorem shT (k i : Int) : SeqAt.shaped (.tuple [.tuple [.str "ring", .list [.list [.tuple [.int 1, .int k]]]], .int i]) = true := by
  have : PyData.strOk "ring" = true := by decide +kernel
  simp [SeqAt.shaped, PyData.canLay0, PyData.canLayAll0, PyData.depth, PyData.depthAll, this]
def sheetD (k : Int) : PyData := .tuple [.str "ring", .list [.list [.tuple [.int 1, .int k]]]]
def spFields (K : PySem.W.Frag) : Sp := fun vs H Q _ => ∃ (po on tw sh : V) (k : Int), vs = [po, on, tw, sh] ∧ (∃ x : Str, po = .str x ∧ x.length ≤ 100 ∧ PyData.strOk x = true ∧ PyData.strOk (x ++ ("s" : Str)) = true) ∧ Nm on ∧ Nm tw ∧ (∀ G, Same H G → Dp K G sh (sheetD k)) ∧ ∀ H', Same H H' → Q (.bl true) H'
section
variable {P : Program} {w : World} {K : PySem.W.Frag} {mg : Str → Option Value} {base : Heap}
theorem sc__law_fields : FnScope ["_law_portion", "_law_one", "_law_two", "_law_sheet", "_law_some"] ["_law_portion", "_law_one", "_law_two", "_law_sheet"] (defScope s__law_fields) := ⟨rfl, rfl, rfl, by decide +kernel, rfl, by decide +kernel, by decide +kernel⟩
theorem ok__law_fields {f : Addr} {fd : FuncData} {Ca : Nat → Addr} {CE : Addr} (F : Fun K "_law_fields" "_law_fields" s__law_fields f fd) (T : Errs10 P w K mg Ca CE) : FnOk P w K mg base CX0 (k + 1) f fd ["_law_portion", "_law_one", "_law_two", "_law_sheet"] (spFields K) := by
  refine F.ok sc__law_fields (fun vs H Q E h => ?_) (fun cdv A outer s H vs Q E hr h => ?_)
  · obtain ⟨po, on, tw, sh, kk, rfl, _⟩ := h
    rfl
  · obtain ⟨po, on, tw, sh, kk, rfl, hpo, hon, htw, hsh, q⟩ := h
    refine ⟨_, (pss_cons (ps_set (i := 4) sc__law_fields.nd rfl (.inl rfl) (pe_lst (pa_cons (pe_xfO (pe_erVE T.x2 hr (pa_cons (pv 1) pa_nil))) (pa_cons (pe_xfO (pe_erKE T.x2 hr (pk_cons (pv 2) pk_nil))) (pa_cons (pe_xfO (pe_erKE T.x2 hr pk_nil)) (pa_cons (pe_xfO (pe_erVE T.x6 hr (pa_cons (pv 1) pa_nil))) (pa_cons (pe_xfO (pe_erKE T.x6 hr (pk_cons (pv 2) pk_nil))) (pa_cons (pe_xfO (pe_erVE T.x9 hr (pa_cons (pv 1) pa_nil))) pa_nil))))))))
      (pss_cons (ps_if (pt_cmpR (op_neD hr.units) (pv 4) (pe_lst (pa_cons (pv 1) (pa_cons (pv 2) (pa_cons pe_int (pa_cons (pv 1) (pa_cons (pv 2) (pa_cons (pv 1) pa_nil))))))) (nomark _)) (pss_one (ps_ret pe_bl)) pss_nil)
      (pss_cons (ps_set (i := 4) sc__law_fields.nd rfl (.inl rfl) (pe_lst (pa_cons (pe_xfO (pe_erKE T.x9 hr (pk_cons (pv 2) pk_nil))) (pa_cons (pe_xfO (pe_erVE T.x11 hr (pa_cons (pv 2) pa_nil))) (pa_cons (pe_xfO (pe_erKE T.x11 hr (pk_cons (pv 1) pk_nil))) (pa_cons (pe_xfO (pe_erVE T.x13 hr (pa_cons (pv 1) pa_nil))) (pa_cons (pe_xfO (pe_erKE T.x13 hr (pk_cons (pv 2) pk_nil))) pa_nil)))))))
      (pss_cons (ps_if (pt_cmpR (op_neD hr.units) (pv 4) (pe_lst (pa_cons (pv 2) (pa_cons (pv 2) (pa_cons (pv 1) (pa_cons (pv 1) (pa_cons (pv 2) pa_nil)))))) (nomark _)) (pss_one (ps_ret pe_bl)) pss_nil)
      (pss_cons (ps_set (i := 4) sc__law_fields.nd rfl (.inl rfl) (pe_lst (pa_cons (pe_xfO (pe_erVE T.x15 hr (pa_cons (pv 1) pa_nil))) (pa_cons (pe_xfO (pe_erKE T.x15 hr (pk_cons (pv 2) pk_nil))) (pa_cons (pe_xfO (pe_erKE T.x15 hr pk_nil)) (pa_cons (pe_xfO (pe_erVE T.x17 hr (pa_cons (pv 0) pa_nil))) (pa_cons (pe_xfO (pe_erKE T.x17 hr (pk_cons (pv 0) pk_nil))) pa_nil)))))))
      (pss_cons (ps_if (pt_cmpR (op_neD hr.units) (pv 4) (pe_lst (pa_cons (pv 1) (pa_cons (pv 2) (pa_cons pe_int (pa_cons (pv 0) (pa_cons (pv 0) pa_nil)))))) (nomark _)) (pss_one (ps_ret pe_bl)) pss_nil)
      (pss_cons (ps_if (PW.pt (pw_or (pt_cmpR (op_neD hr.units) (pe_lst (pa_cons (pe_xfO (pe_erVE T.x7 hr (pa_cons (pv 0) (pa_cons (pv 1) pa_nil)))) (pa_cons (pe_xfO (pe_erKE T.x7 hr (pk_cons (pv 2) (pk_cons (pv 0) pk_nil)))) pa_nil))) (pe_lst (pa_cons (pv 1) (pa_cons (pv 2) pa_nil))) (nomark _)) (pw_or1 (pt_cmpR op_notN (pe_xfO (pe_erVE T.x7 hr (pa_cons (pv 0) pa_nil))) pe_non (nomark _))))) (pss_one (ps_ret pe_bl)) pss_nil)
      (pss_cons (ps_set (i := 4) sc__law_fields.nd rfl (.inl rfl) (pe_lst (pa_cons (pe_xfO (pe_erVE T.x7 hr (pa_cons (pv 0) (pa_cons (pv 1) pa_nil)))) (pa_cons (pe_xfO (pe_erKE T.x7 hr (pk_cons (pv 2) (pk_cons (pv 0) pk_nil)))) (pa_cons (pe_xfO (pe_erVE T.x1 hr (pa_cons (pv 0) pa_nil))) pa_nil)))))
      (pss_cons (ps_if (PW.pt (pw_or (pt_cmpR (op_neD hr.units) (pv 4) (pe_lst (pa_cons (pv 0) (pa_cons (pv 0) (pa_cons (pv 0) pa_nil)))) (nomark _)) (pw_or1 (pt_cmpR (op_neD hr.units) (pe_xfO (pe_erKE T.x1 hr (pk_cons (pe_op op_add_str (pv 0) pe_str) pk_nil))) (pe_op op_add_str (pv 0) pe_str) (nomark _))))) (pss_one (ps_ret pe_bl)) pss_nil)
      (pss_one (ps_ret (pe_and (pe_cmpR (op_eqD hr.units) (pe_xfO (pe_erVE T.x5 hr (pa_cons (pv 3) pa_nil))) (pv 3) (nomark _)) (pe_one (pe_cmpR (op_eqD hr.units) (pe_xfO (pe_erKE T.x5 hr (pk_cons (pe_tup (pa_cons (pv 3) (pa_cons (pv 1) pa_nil))) pk_nil))) (pe_tup (pa_cons (pv 3) (pa_cons (pv 1) pa_nil))) (nomark _))))))))))))))), ?_⟩
    obtain ⟨xp, rfl, lp, ok1, ok2⟩ := hpo
    have hpo : Sh (.str xp) := ⟨xp, rfl, Nat.le_trans lp (by decide)⟩
    have lq : (xp ++ ("s" : Str)).length ≤ 101 := by
      rw [show (xp ++ ("s" : Str)).length = xp.length + ("s" : Str).length by first | exact Str.length_append _ _ | simp]
      exact Nat.add_le_add lp (by decide : ("s" : Str).length ≤ 1)
    obtain ⟨i1, rfl, -, -⟩ := id hon
    obtain ⟨i2, rfl, -, -⟩ := id htw
    have lz : xp.length + ("s" : Str).length ≤ sizeLine := Nat.le_trans (Nat.add_le_add lp (by decide : ("s" : Str).length ≤ 1)) (by rw [sizeLine_eq]; decide)
    have f0 : VFmt (.int 0) := Nm.fmt ⟨0, rfl, by decide, by decide⟩
    have c0 : Same H H := Same.refl H
    have hps : Sh (.str (xp ++ ("s" : Str))) := ⟨_, rfl, Nat.le_trans lq (by decide)⟩
    refine ⟨_, rfl, rfl, _, ⟨_, hon.fmt, rfl, .inl ⟨rfl, rfl⟩⟩, fun a1 d1 h1 hd1 ne1 => ?_⟩
    generalize hU : upd _ a1 _ = G1
    obtain ⟨n1, -, ga1, gd1⟩ := fresh2 (T.xc 2 (by decide)) h1 hd1 ne1 hU
    clear hU
    have c1 := c0.trans n1
    refine ⟨a1, _, d1, _, _, rfl, ga1, gd1, ErrC.xf T.x2.ec, T.x2.no _ (by simp), rfl, _, rfl, rfl, _, ⟨_, htw.fmt, rfl, .inr (.inl ⟨rfl, rfl⟩)⟩, fun a2 d2 h2 hd2 ne2 => ?_⟩
    generalize hU : upd _ a2 _ = G2
    obtain ⟨n2, -, ga2, gd2⟩ := fresh2 (T.xc 2 (by decide)) h2 hd2 ne2 hU
    clear hU
    have c2 := c1.trans n2
    refine ⟨a2, _, d2, _, _, rfl, ga2, gd2, ErrC.xf T.x2.ec, T.x2.no _ (by simp), rfl, rfl, _, ⟨_, f0, rfl, .inr (.inr ⟨rfl, rfl, rfl⟩)⟩, fun a3 d3 h3 hd3 ne3 => ?_⟩
    generalize hU : upd _ a3 _ = G3
    obtain ⟨n3, -, ga3, gd3⟩ := fresh2 (T.xc 2 (by decide)) h3 hd3 ne3 hU
    clear hU
    have c3 := c2.trans n3
    refine ⟨a3, _, d3, _, _, rfl, ga3, gd3, ErrC.xf T.x2.ec, T.x2.no _ (by simp), rfl, _, rfl, rfl, _, ⟨_, hon.fmt, rfl, .inl ⟨rfl, rfl⟩⟩, fun a4 d4 h4 hd4 ne4 => ?_⟩
    generalize hU : upd _ a4 _ = G4
    obtain ⟨n4, -, ga4, gd4⟩ := fresh2 (T.xc 6 (by decide)) h4 hd4 ne4 hU
    clear hU
    have c4 := c3.trans n4
    refine ⟨a4, _, d4, _, _, rfl, ga4, gd4, ErrC.xf T.x6.ec, T.x6.no _ (by simp), rfl, _, rfl, rfl, _, ⟨_, htw.fmt, rfl, .inr (.inl ⟨rfl, rfl⟩)⟩, fun a5 d5 h5 hd5 ne5 => ?_⟩
    generalize hU : upd _ a5 _ = G5
    obtain ⟨n5, -, ga5, gd5⟩ := fresh2 (T.xc 6 (by decide)) h5 hd5 ne5 hU
    clear hU
    have c5 := c4.trans n5
    refine ⟨a5, _, d5, _, _, rfl, ga5, gd5, ErrC.xf T.x6.ec, T.x6.no _ (by simp), rfl, _, rfl, rfl, _, ⟨_, hon.fmt, rfl, .inl ⟨rfl, rfl⟩⟩, fun a6 d6 h6 hd6 ne6 => ?_⟩
    generalize hU : upd _ a6 _ = G6
    obtain ⟨n6, -, ga6, gd6⟩ := fresh2 (T.xc 9 (by decide)) h6 hd6 ne6 hU
    clear hU
    have c6 := c5.trans n6
    refine ⟨a6, _, d6, _, _, rfl, ga6, gd6, ErrC.xf T.x9.ec, T.x9.no _ (by simp), rfl, (by show 6 ≤ sizeLine; decide), fun p0 hp0 => ?_⟩
    generalize hU : upd _ p0 _ = G7
    have n7 : Same G6 G7 := by
      rw [← hU]
      exact same_new hp0
    have lp0 : G7 p0 = some (.lst [.int i1, .int i2, .int 0, .int i1, .int i2, .int i1]) := by
      rw [← hU]
      exact upd_same
    clear hU
    have c7 := c6.trans n7
    refine ⟨_, rfl, _, rfl, _, rfl, _, rfl, _, rfl, _, rfl, (by show 6 ≤ sizeLine; decide), fun q0 hq0 => ?_⟩
    generalize hU : upd _ q0 _ = G8
    have n8 : Same G7 G8 := by
      rw [← hU]
      exact same_new hq0
    have lq0 : G8 q0 = some (.lst [.int i1, .int i2, .int 0, .int i1, .int i2, .int i1]) := by
      rw [← hU]
      exact upd_same
    clear hU
    have c8 := c7.trans n8
    refine ⟨_, _, .lst (SqL.of (n8 _ _ lp0)) (.cons (.int _) (.cons (.int _) (.cons (.int _) (.cons (.int _) (.cons (.int _) (.cons (.int _) .nil)))))), .lst (SqL.of lq0) (.cons (.int _) (.cons (.int _) (.cons (.int _) (.cons (.int _) (.cons (.int _) (.cons (.int _) .nil)))))), rfl, rfl, ?_⟩
    refine ⟨_, rfl, iteC (d := false) (by rw [eqv_of (rfl)]; rfl) (iteF ?_)⟩
    refine ⟨_, rfl, rfl, _, ⟨_, htw.fmt, rfl, .inr (.inl ⟨rfl, rfl⟩)⟩, fun a9 d9 h9 hd9 ne9 => ?_⟩
    generalize hU : upd _ a9 _ = G9
    obtain ⟨n9, -, ga9, gd9⟩ := fresh2 (T.xc 9 (by decide)) h9 hd9 ne9 hU
    clear hU
    have c9 := c8.trans n9
    refine ⟨a9, _, d9, _, _, rfl, ga9, gd9, ErrC.xf T.x9.ec, T.x9.no _ (by simp), rfl, _, rfl, rfl, _, ⟨_, htw.fmt, rfl, .inl ⟨rfl, rfl⟩⟩, fun a10 d10 h10 hd10 ne10 => ?_⟩
    generalize hU : upd _ a10 _ = G10
    obtain ⟨n10, -, ga10, gd10⟩ := fresh2 (T.xc 11 (by decide)) h10 hd10 ne10 hU
    clear hU
    have c10 := c9.trans n10
    refine ⟨a10, _, d10, _, _, rfl, ga10, gd10, ErrC.xf T.x11.ec, T.x11.no _ (by simp), rfl, _, rfl, rfl, _, ⟨_, hon.fmt, rfl, .inr (.inl ⟨rfl, rfl⟩)⟩, fun a11 d11 h11 hd11 ne11 => ?_⟩
    generalize hU : upd _ a11 _ = G11
    obtain ⟨n11, -, ga11, gd11⟩ := fresh2 (T.xc 11 (by decide)) h11 hd11 ne11 hU
    clear hU
    have c11 := c10.trans n11
    refine ⟨a11, _, d11, _, _, rfl, ga11, gd11, ErrC.xf T.x11.ec, T.x11.no _ (by simp), rfl, _, rfl, rfl, _, ⟨_, hon.fmt, rfl, .inl ⟨rfl, rfl⟩⟩, fun a12 d12 h12 hd12 ne12 => ?_⟩
    generalize hU : upd _ a12 _ = G12
    obtain ⟨n12, -, ga12, gd12⟩ := fresh2 (T.xc 13 (by decide)) h12 hd12 ne12 hU
    clear hU
    have c12 := c11.trans n12
    refine ⟨a12, _, d12, _, _, rfl, ga12, gd12, ErrC.xf T.x13.ec, T.x13.no _ (by simp), rfl, _, rfl, rfl, _, ⟨_, htw.fmt, rfl, .inr (.inl ⟨rfl, rfl⟩)⟩, fun a13 d13 h13 hd13 ne13 => ?_⟩
    generalize hU : upd _ a13 _ = G13
    obtain ⟨n13, -, ga13, gd13⟩ := fresh2 (T.xc 13 (by decide)) h13 hd13 ne13 hU
    clear hU
    have c13 := c12.trans n13
    refine ⟨a13, _, d13, _, _, rfl, ga13, gd13, ErrC.xf T.x13.ec, T.x13.no _ (by simp), rfl, (by show 5 ≤ sizeLine; decide), fun p1 hp1 => ?_⟩
    generalize hU : upd _ p1 _ = G14
    have n14 : Same G13 G14 := by
      rw [← hU]
      exact same_new hp1
    have lp1 : G14 p1 = some (.lst [.int i2, .int i2, .int i1, .int i1, .int i2]) := by
      rw [← hU]
      exact upd_same
    clear hU
    have c14 := c13.trans n14
    refine ⟨_, rfl, _, rfl, _, rfl, _, rfl, _, rfl, _, rfl, (by show 5 ≤ sizeLine; decide), fun q1 hq1 => ?_⟩
    generalize hU : upd _ q1 _ = G15
    have n15 : Same G14 G15 := by
      rw [← hU]
      exact same_new hq1
    have lq1 : G15 q1 = some (.lst [.int i2, .int i2, .int i1, .int i1, .int i2]) := by
      rw [← hU]
      exact upd_same
    clear hU
    have c15 := c14.trans n15
    refine ⟨_, _, .lst (SqL.of (n15 _ _ lp1)) (.cons (.int _) (.cons (.int _) (.cons (.int _) (.cons (.int _) (.cons (.int _) .nil))))), .lst (SqL.of lq1) (.cons (.int _) (.cons (.int _) (.cons (.int _) (.cons (.int _) (.cons (.int _) .nil))))), rfl, rfl, ?_⟩
    refine ⟨_, rfl, iteC (d := false) (by rw [eqv_of (rfl)]; rfl) (iteF ?_)⟩
    refine ⟨_, rfl, rfl, _, ⟨_, hon.fmt, rfl, .inl ⟨rfl, rfl⟩⟩, fun a16 d16 h16 hd16 ne16 => ?_⟩
    generalize hU : upd _ a16 _ = G16
    obtain ⟨n16, -, ga16, gd16⟩ := fresh2 (T.xc 15 (by decide)) h16 hd16 ne16 hU
    clear hU
    have c16 := c15.trans n16
    refine ⟨a16, _, d16, _, _, rfl, ga16, gd16, ErrC.xf T.x15.ec, T.x15.no _ (by simp), rfl, _, rfl, rfl, _, ⟨_, htw.fmt, rfl, .inr (.inl ⟨rfl, rfl⟩)⟩, fun a17 d17 h17 hd17 ne17 => ?_⟩
    generalize hU : upd _ a17 _ = G17
    obtain ⟨n17, -, ga17, gd17⟩ := fresh2 (T.xc 15 (by decide)) h17 hd17 ne17 hU
    clear hU
    have c17 := c16.trans n17
    refine ⟨a17, _, d17, _, _, rfl, ga17, gd17, ErrC.xf T.x15.ec, T.x15.no _ (by simp), rfl, rfl, _, ⟨_, f0, rfl, .inr (.inr ⟨rfl, rfl, rfl⟩)⟩, fun a18 d18 h18 hd18 ne18 => ?_⟩
    generalize hU : upd _ a18 _ = G18
    obtain ⟨n18, -, ga18, gd18⟩ := fresh2 (T.xc 15 (by decide)) h18 hd18 ne18 hU
    clear hU
    have c18 := c17.trans n18
    refine ⟨a18, _, d18, _, _, rfl, ga18, gd18, ErrC.xf T.x15.ec, T.x15.no _ (by simp), rfl, _, rfl, rfl, _, ⟨_, hpo.fmt, rfl, .inl ⟨rfl, rfl⟩⟩, fun a19 d19 h19 hd19 ne19 => ?_⟩
    generalize hU : upd _ a19 _ = G19
    obtain ⟨n19, -, ga19, gd19⟩ := fresh2 (T.xc 17 (by decide)) h19 hd19 ne19 hU
    clear hU
    have c19 := c18.trans n19
    refine ⟨a19, _, d19, _, _, rfl, ga19, gd19, ErrC.xf T.x17.ec, T.x17.no _ (by simp), rfl, _, rfl, rfl, _, ⟨_, hpo.fmt, rfl, .inr (.inl ⟨rfl, rfl⟩)⟩, fun a20 d20 h20 hd20 ne20 => ?_⟩
    generalize hU : upd _ a20 _ = G20
    obtain ⟨n20, -, ga20, gd20⟩ := fresh2 (T.xc 17 (by decide)) h20 hd20 ne20 hU
    clear hU
    have c20 := c19.trans n20
    refine ⟨a20, _, d20, _, _, rfl, ga20, gd20, ErrC.xf T.x17.ec, T.x17.no _ (by simp), rfl, (by show 5 ≤ sizeLine; decide), fun p2 hp2 => ?_⟩
    generalize hU : upd _ p2 _ = G21
    have n21 : Same G20 G21 := by
      rw [← hU]
      exact same_new hp2
    have lp2 : G21 p2 = some (.lst [.int i1, .int i2, .int 0, .str xp, .str xp]) := by
      rw [← hU]
      exact upd_same
    clear hU
    have c21 := c20.trans n21
    refine ⟨_, rfl, _, rfl, _, rfl, _, rfl, _, rfl, (by show 5 ≤ sizeLine; decide), fun q2 hq2 => ?_⟩
    generalize hU : upd _ q2 _ = G22
    have n22 : Same G21 G22 := by
      rw [← hU]
      exact same_new hq2
    have lq2 : G22 q2 = some (.lst [.int i1, .int i2, .int 0, .str xp, .str xp]) := by
      rw [← hU]
      exact upd_same
    clear hU
    have c22 := c21.trans n22
    refine ⟨_, _, .lst (SqL.of (n22 _ _ lp2)) (.cons (.int _) (.cons (.int _) (.cons (.int _) (.cons (.str _) (.cons (.str _) .nil))))), .lst (SqL.of lq2) (.cons (.int _) (.cons (.int _) (.cons (.int _) (.cons (.str _) (.cons (.str _) .nil))))), sh5 ok1 _ _ _, sh5 ok1 _ _ _, ?_⟩
    refine ⟨_, rfl, iteC (d := false) (by rw [eqv_of (sh5 ok1 _ _ _)]; rfl) (iteF ?_)⟩
    refine ⟨_, rfl, _, rfl, rfl, _, ⟨_, _, .inl hpo.fmt, .inl hon.fmt, rfl, .inl ⟨rfl, rfl⟩⟩, fun a23 d23 h23 hd23 ne23 => ?_⟩
    generalize hU : upd _ a23 _ = G23
    obtain ⟨n23, -, ga23, gd23⟩ := fresh2 (T.xc 7 (by decide)) h23 hd23 ne23 hU
    clear hU
    have c23 := c22.trans n23
    refine ⟨a23, _, d23, _, _, rfl, ga23, gd23, ErrC.xf T.x7.ec, T.x7.no _ (by simp), rfl, _, rfl, _, rfl, rfl, _, ⟨_, _, .inl hpo.fmt, .inl htw.fmt, rfl, .inr (.inl ⟨rfl, rfl⟩)⟩, fun a24 d24 h24 hd24 ne24 => ?_⟩
    generalize hU : upd _ a24 _ = G24
    obtain ⟨n24, -, ga24, gd24⟩ := fresh2 (T.xc 7 (by decide)) h24 hd24 ne24 hU
    clear hU
    have c24 := c23.trans n24
    refine ⟨a24, _, d24, _, _, rfl, ga24, gd24, ErrC.xf T.x7.ec, T.x7.no _ (by simp), rfl, (by show 2 ≤ sizeLine; decide), fun pz hpz => ?_⟩
    generalize hU : upd _ pz _ = G25
    have n25 : Same G24 G25 := by
      rw [← hU]
      exact same_new hpz
    have lpz : G25 pz = some (.lst [.int i1, .int i2]) := by
      rw [← hU]
      exact upd_same
    clear hU
    have c25 := c24.trans n25
    refine ⟨_, rfl, _, rfl, (by show 2 ≤ sizeLine; decide), fun qz hqz => ?_⟩
    generalize hU : upd _ qz _ = G26
    have n26 : Same G25 G26 := by
      rw [← hU]
      exact same_new hqz
    have lqz : G26 qz = some (.lst [.int i1, .int i2]) := by
      rw [← hU]
      exact upd_same
    clear hU
    have c26 := c25.trans n26
    refine ⟨_, _, .lst (SqL.of (n26 _ _ lpz)) (.cons (.int _) (.cons (.int _) .nil)), .lst (SqL.of lqz) (.cons (.int _) (.cons (.int _) .nil)), rfl, rfl, ?_⟩
    refine ⟨_, rfl, iteC (d := false) (by rw [eqv_of (rfl)]; rfl) (iteF ?_)⟩
    refine ⟨_, rfl, rfl, _, ⟨_, _, .inl hpo.fmt, .inr rfl, rfl, .inr (.inr ⟨rfl, rfl, rfl⟩)⟩, fun a27 d27 h27 hd27 ne27 => ?_⟩
    generalize hU : upd _ a27 _ = G27
    obtain ⟨n27, -, ga27, gd27⟩ := fresh2 (T.xc 7 (by decide)) h27 hd27 ne27 hU
    clear hU
    have c27 := c26.trans n27
    refine ⟨a27, _, d27, _, _, rfl, ga27, gd27, ErrC.xf T.x7.ec, T.x7.no _ (by simp), rfl, ?_⟩
    refine ⟨rfl, _, rfl, iteC (d := false) (by simp) (iteF ?_)⟩
    refine ⟨_, rfl, _, rfl, rfl, _, ⟨_, _, .inl hpo.fmt, .inl hon.fmt, rfl, .inl ⟨rfl, rfl⟩⟩, fun a28 d28 h28 hd28 ne28 => ?_⟩
    generalize hU : upd _ a28 _ = G28
    obtain ⟨n28, -, ga28, gd28⟩ := fresh2 (T.xc 7 (by decide)) h28 hd28 ne28 hU
    clear hU
    have c28 := c27.trans n28
    refine ⟨a28, _, d28, _, _, rfl, ga28, gd28, ErrC.xf T.x7.ec, T.x7.no _ (by simp), rfl, _, rfl, _, rfl, rfl, _, ⟨_, _, .inl hpo.fmt, .inl htw.fmt, rfl, .inr (.inl ⟨rfl, rfl⟩)⟩, fun a29 d29 h29 hd29 ne29 => ?_⟩
    generalize hU : upd _ a29 _ = G29
    obtain ⟨n29, -, ga29, gd29⟩ := fresh2 (T.xc 7 (by decide)) h29 hd29 ne29 hU
    clear hU
    have c29 := c28.trans n29
    refine ⟨a29, _, d29, _, _, rfl, ga29, gd29, ErrC.xf T.x7.ec, T.x7.no _ (by simp), rfl, _, rfl, rfl, _, ⟨_, hpo.fmt, rfl, .inl ⟨rfl, rfl⟩⟩, fun a30 d30 h30 hd30 ne30 => ?_⟩
    generalize hU : upd _ a30 _ = G30
    obtain ⟨n30, -, ga30, gd30⟩ := fresh2 (T.xc 1 (by decide)) h30 hd30 ne30 hU
    clear hU
    have c30 := c29.trans n30
    refine ⟨a30, _, d30, _, _, rfl, ga30, gd30, ErrC.xf T.x1.ec, T.x1.no _ (by simp), rfl, (by show 3 ≤ sizeLine; decide), fun p3 hp3 => ?_⟩
    generalize hU : upd _ p3 _ = G31
    have n31 : Same G30 G31 := by
      rw [← hU]
      exact same_new hp3
    have lp3 : G31 p3 = some (.lst [.str xp, .str xp, .str xp]) := by
      rw [← hU]
      exact upd_same
    clear hU
    have c31 := c30.trans n31
    refine ⟨_, rfl, _, rfl, _, rfl, _, rfl, (by show 3 ≤ sizeLine; decide), fun q3 hq3 => ?_⟩
    generalize hU : upd _ q3 _ = G32
    have n32 : Same G31 G32 := by
      rw [← hU]
      exact same_new hq3
    have lq3 : G32 q3 = some (.lst [.str xp, .str xp, .str xp]) := by
      rw [← hU]
      exact upd_same
    clear hU
    have c32 := c31.trans n32
    refine ⟨_, _, .lst (SqL.of (n32 _ _ lp3)) (.cons (.str _) (.cons (.str _) (.cons (.str _) .nil))), .lst (SqL.of lq3) (.cons (.str _) (.cons (.str _) (.cons (.str _) .nil))), sh3 ok1, sh3 ok1, ?_⟩
    refine ⟨_, rfl, iteC (d := false) (by rw [eqv_of (sh3 ok1)]; rfl) (iteF ?_)⟩
    refine ⟨_, rfl, _, _, rfl, rfl, lz, rfl, _, ⟨_, hps.fmt, rfl, .inr (.inl ⟨rfl, rfl⟩)⟩, fun a33 d33 h33 hd33 ne33 => ?_⟩
    generalize hU : upd _ a33 _ = G33
    obtain ⟨n33, -, ga33, gd33⟩ := fresh2 (T.xc 1 (by decide)) h33 hd33 ne33 hU
    clear hU
    have c33 := c32.trans n33
    refine ⟨a33, _, d33, _, _, rfl, ga33, gd33, ErrC.xf T.x1.ec, T.x1.no _ (by simp), rfl, _, rfl, _, _, rfl, rfl, lz, _, _, .str _, .str _, sh1 ok2, sh1 ok2, _, rfl, iteC (d := false) (by rw [eqv_of (sh1 ok2)]; rfl) (iteF ?_)⟩
    refine ⟨_, rfl, rfl, _, ⟨_, rfl, .inl ⟨rfl, rfl⟩⟩, fun a34 d34 h34 hd34 ne34 => ?_⟩
    generalize hU : upd _ a34 _ = G34
    obtain ⟨n34, -, ga34, gd34⟩ := fresh2 (T.xc 5 (by decide)) h34 hd34 ne34 hU
    clear hU
    have c34 := c33.trans n34
    refine ⟨a34, _, d34, _, _, rfl, ga34, gd34, ErrC.xf T.x5.ec, T.x5.no _ (by simp), rfl, _, rfl, _, _, hsh _ c34, hsh _ c34, shS _, shS _, ?_⟩
    refine ⟨_, rfl, iteC (d := true) (eqv_of (shS _)) (iteT ?_)⟩
    refine ⟨_, rfl, _, rfl, (by show 2 ≤ sizeLine; decide), fun u1 hu1 => ?_⟩
    generalize hU : upd _ u1 _ = G35
    have n35 : Same G34 G35 := by
      rw [← hU]
      exact same_new hu1
    have lu1 : G35 u1 = some (.tup [sh, .int i1]) := by
      rw [← hU]
      exact upd_same
    clear hU
    have c35 := c34.trans n35
    refine ⟨rfl, _, ⟨_, rfl, .inr ⟨rfl, rfl⟩⟩, fun a36 d36 h36 hd36 ne36 => ?_⟩
    generalize hU : upd _ a36 _ = G36
    obtain ⟨n36, -, ga36, gd36⟩ := fresh2 (T.xc 5 (by decide)) h36 hd36 ne36 hU
    clear hU
    have c36 := c35.trans n36
    have lu := n36 _ _ lu1
    refine ⟨a36, _, d36, _, _, rfl, ga36, gd36, ErrC.xf T.x5.ec, T.x5.no _ (by simp), rfl, _, rfl, _, rfl, (by show 2 ≤ sizeLine; decide), fun u2 hu2 => ?_⟩
    generalize hU : upd _ u2 _ = G37
    have n37 : Same G36 G37 := by
      rw [← hU]
      exact same_new hu2
    have lu2 : G37 u2 = some (.tup [sh, .int i1]) := by
      rw [← hU]
      exact upd_same
    clear hU
    have c37 := c36.trans n37
    refine ⟨_, _, .tup (SqT.of (n37 _ _ lu)) (.cons (hsh _ c37) (.cons (.int _) .nil)), .tup (SqT.of lu2) (.cons (hsh _ c37) (.cons (.int _) .nil)), shT _ _, shT _ _, ?_⟩
    have ev : PyData.eqv (.tuple [sheetD kk, .int i1]) (.tuple [sheetD kk, .int i1]) = true := eqv_of (shT _ _)
    rw [ev]
    exact q _ c37
end
end E1

namespace E1
open PySem PySem.Spec PyProof.Rows L2
def spLaw (K : PySem.W.Frag) : Sp := fun vs H Q _ => ∃ (a : Addr) (ns : List Int), vs = [.ref a] ∧ SqL K H a (ns.map V.int) ∧ ns.length ≤ 63 ∧ ∀ H', Q (.bl true) H'
theorem pick4 {α : Type} {a b c d : α} {r : Int} (h0 : 0 ≤ r) (h1 : r < 4) : ∃ v, atI [a, b, c, d] r = some v ∧ (v = a ∨ v = b ∨ v = c ∨ v = d) := by
  obtain ⟨n, rfl⟩ := Int.eq_ofNat_of_zero_le h0
  match n, h1 with
  | 0, _ => exact ⟨a, atI_nat (j := 0) rfl, .inl rfl⟩
  | 1, _ => exact ⟨b, atI_nat (j := 1) rfl, .inr (.inl rfl)⟩
  | 2, _ => exact ⟨c, atI_nat (j := 2) rfl, .inr (.inr (.inl rfl))⟩
  | 3, _ => exact ⟨d, atI_nat (j := 3) rfl, .inr (.inr (.inr rfl))⟩
  | n + 4, h1 => exact absurd h1 (by omega)
theorem range_snoc {β : Type} (f : Nat → β) (i : Nat) : (List.range (i + 1)).map f = (List.range i).map f ++ [f i] := by
  rw [List.range_succ, List.map_append]
  rfl
def md (i : Nat) : List PyData := (List.range 18).map fun j => PyData.bool (decide (i = j))
theorem dp_bls {K : PySem.W.Frag} {H : Hp} (f : Nat → Bool) : ∀ l : List Nat, DpAll K H (l.map fun j => V.bl (f j)) (l.map fun j => PyData.bool (f j))
  | [] => .nil
  | a :: l => .cons (.bl _) (dp_bls f l)
theorem dp_mks {K : PySem.W.Frag} (H : Hp) (i : Nat) : DpAll K H (mks i) (md i) := dp_bls _ _
theorem sh_md (i : Nat) (h : i < 18) : SeqAt.shaped (.list (md i)) = true := by
  have key : ∀ i : Fin 18, SeqAt.shaped (.list (md i)) = true := by decide +kernel
  exact key ⟨i, h⟩
def Po (v : V) : Prop := ∃ x : Str, v = .str x ∧ x.length ≤ 100 ∧ PyData.strOk x = true ∧ PyData.strOk (x ++ ("s" : Str)) = true
section
variable {P : Program} {w : World} {K : PySem.W.Frag} {mg : Str → Option Value} {base : Heap}
theorem sc_law : FnScope ["_law_script", "_law_well_here", "_law_portion", "_law_one", "_law_two", "_law_sheet", "_law_made_here", "_law_place_at", "_law_e", "_law_k"] ["_law_script"] (defScope s_law) := ⟨rfl, rfl, rfl, by decide +kernel, rfl, by decide +kernel, by decide +kernel⟩
theorem ok_law {f : Addr} {fd : FuncData} {Ca : Nat → Addr} {CE : Addr} (F : Fun K "law" "law" s_law f fd) (z : Zs mg) (T : Errs10 P w K mg Ca CE) (c__law_cell_at : Cal P w K mg base 1 "_law_cell_at" ["_law_script", "_law_k"] (spCell K)) (c__law_well : Cal P w K mg base 1 "_law_well" ["_law_cell"] spWell) (c__law_draw : Cal P w K mg base 1 "_law_draw" ["_law_well_here", "_law_much"] spDraw) (c__law_marks : Cal P w K mg base 1 "_law_marks" ["_law_e"] (spMarks K Ca)) (c__law_made : Cal P w K mg base 1 "_law_made" ["_law_portion", "_law_one", "_law_two", "_law_sheet"] (spMade K Ca)) (c__law_fields : Cal P w K mg base 1 "_law_fields" ["_law_portion", "_law_one", "_law_two", "_law_sheet"] (spFields K)) : FnOk P w K mg base CX0 2 f fd ["_law_script"] (spLaw K) := by
  refine F.ok sc_law (fun vs H Q E h => ?_) (fun cdv A outer s H vs Q E hr h => ?_)
  · obtain ⟨a, ns, rfl, _⟩ := h
    rfl
  · obtain ⟨a, ns, rfl, h_s, hlen, q⟩ := h
    refine ⟨_, (pss_cons (ps_set (i := 1) sc_law.nd rfl (.inl rfl) (pe_cal c__law_well hr (pa_cons (pe_cal c__law_cell_at hr (pa_cons (pv 0) (pa_cons pe_int pa_nil))) pa_nil)))
      (pss_cons (ps_set (i := 2) sc_law.nd rfl (.inl rfl) (pe_ix ix_list (pe_lst (pa_cons pe_str (pa_cons pe_str (pa_cons pe_str (pa_cons pe_str pa_nil))))) (pe_cal c__law_draw hr (pa_cons (pv 1) (pa_cons pe_int pa_nil))) (fun _ _ => rfl)))
      (pss_cons (ps_set (i := 3) sc_law.nd rfl (.inl rfl) (pe_cal c__law_draw hr (pa_cons (pv 1) (pa_cons (pe_op op_pow pe_int pe_int) pa_nil))))
      (pss_cons (ps_set (i := 4) sc_law.nd rfl (.inl rfl) (pe_op op_add (pe_cal c__law_draw hr (pa_cons (pv 1) (pa_cons (pe_op op_pow pe_int pe_int) pa_nil))) (pe_op op_pow pe_int pe_int)))
      (pss_cons (ps_set (i := 5) sc_law.nd rfl (.inl rfl) (pe_tup (pa_cons pe_str (pa_cons (pe_lst (pa_cons (pe_lst (pa_cons (pe_tup (pa_cons pe_int (pa_cons (pe_op op_add pe_int (pe_cal c__law_draw hr (pa_cons (pv 1) (pa_cons pe_int pa_nil)))) pa_nil))) pa_nil)) pa_nil)) pa_nil))))
      (pss_cons (ps_set (i := 6) sc_law.nd rfl (.inl rfl) (pe_cal c__law_made hr (pa_cons (pv 2) (pa_cons (pv 3) (pa_cons (pv 4) (pa_cons (pv 5) pa_nil))))))
      (pss_cons (ps_for PassesOwn.never rfl (pi_enum (by rfl) z.enumerate (pa_cons (pv 6) pa_nil)) (pg_tup (by rfl) (pgs_cons (pg_name (i := 7) sc_law.nd rfl (.inr rfl)) (pgs_cons (pg_name (i := 8) sc_law.nd rfl (.inl rfl)) pgs_nil))) (pss_cons (ps_if (pt_cmpR (op_neD hr.units) (pe_cal c__law_marks hr (pa_cons (pv 8) pa_nil)) (pe_lc (own := [("_law_k", 9)]) (g := gName 9) (tt := tYes) (te := (tOp rEq (tVar 7) (tVar 9))) (by rfl) sc_law.nd (pi_range1 (by rfl) z.range (pa_cons (pe_callB call_len_seq (by rfl) z.len PySem.boot_len (pa_cons (pv 6) pa_nil)) pa_nil)) (blkOk_by (own := [("_law_k", 9)]) (N := ["_law_script", "_law_well_here", "_law_portion", "_law_one", "_law_two", "_law_sheet", "_law_made_here", "_law_place_at", "_law_e", "_law_k"]) (sc := defScope s_law) (by decide +kernel)) (fun _ _ _ _ _ => by exact (pg_name (i := 9) sc_law.nd rfl (.inl rfl))) (fun _ _ _ _ _ => by exact pts_nil) (fun _ _ _ _ _ => by exact (pe_cmpR op_eq (pv 7) (pv 9) (nomark _)))) (nomark _)) (pss_one (ps_ret pe_bl)) pss_nil)
      (pss_one (ps_if (PW.pt (pw_or (pt_not (pt_val (pe_callB call_isO (by rfl) z.isinstance (by decide +kernel) (pa_cons (pv 8) (pa_cons (pe_glob (v := .ref CE) (by rfl) T.xE.gC rfl) pa_nil))))) (pw_or (pt_not (pt_val (pe_callB call_isO (by rfl) z.isinstance (by decide +kernel) (pa_cons (pv 8) (pa_cons (pe_bltn (v := .ty "ArithmeticError") (by rfl) T.zA (by decide +kernel) rfl) pa_nil))))) (pw_or1 (pt_val (pe_callB call_isOT (by rfl) z.isinstance (by decide +kernel) (pa_cons (pv 8) (pa_cons (pe_tup (pa_cons (pe_bltn (v := .ty "ValueError") (by rfl) z.ValueError (by decide +kernel) rfl) (pa_cons (pe_bltn (v := .ty "KeyError") (by rfl) z.KeyError (by decide +kernel) rfl) pa_nil))) pa_nil)))))))) (pss_one (ps_ret pe_bl)) pss_nil))))
      (pss_cons (ps_if (PW.pt (pw_or (pt_val (pe_callB call_isOT (by rfl) z.isinstance (by decide +kernel) (pa_cons (pe_exV T.xE (pa_cons pe_str pa_nil)) (pa_cons (pe_tup (pa_cons (pe_glob (v := .ref (Ca 0)) (by rfl) (T.gl 0 _ rfl) rfl) (pa_cons (pe_glob (v := .ref (Ca 8)) (by rfl) (T.gl 8 _ rfl) rfl) pa_nil))) pa_nil)))) (pw_or1 (pt_not (pt_val (pe_callB call_isO (by rfl) z.isinstance (by decide +kernel) (pa_cons (pe_exV T.xE (pa_cons pe_str pa_nil)) (pa_cons (pe_bltn (v := .ty "ArithmeticError") (by rfl) T.zA (by decide +kernel) rfl) pa_nil)))))))) (pss_one (ps_ret pe_bl)) pss_nil)
      (pss_one (ps_ret (pe_cal c__law_fields hr (pa_cons (pv 2) (pa_cons (pv 3) (pa_cons (pv 4) (pa_cons (pv 5) pa_nil))))))))))))))), ?_⟩
    refine ⟨_, rfl, a, ns, 0, rfl, h_s, _, rfl, fun w1 hw1 H1 s1 e1 => ?_⟩
    refine ⟨(by show 4 ≤ sizeLine; decide), fun p1 hp1 => ?_⟩
    generalize hU : upd _ p1 _ = G1
    have n1 : Same H1 G1 := by
      rw [← hU]
      exact same_new hp1
    have l1 : G1 p1 = some (.lst [.str "width", .str "rows", .str "links", .str "ends"]) := by
      rw [← hU]
      exact upd_same
    clear hU
    refine ⟨_, rfl, w1, _, 4, rfl, e1.same n1, by decide, by decide, by decide, fun r1 D1 r1a r1b d1 f1 e2 => ?_⟩
    obtain ⟨po, ep, hpo⟩ := pick4 (a := V.str "width") (b := V.str "rows") (c := V.str "links") (d := V.str "ends") r1a r1b
    have hpo : Po po := by
      rcases hpo with rfl | rfl | rfl | rfl <;> exact ⟨_, rfl, by decide +kernel, by decide +kernel, by decide +kernel⟩
    have np1 : p1 ≠ w1 := fun z => by
      subst z
      obtain ⟨x, y, zz, ee, _⟩ := e1.same n1
      rw [l1] at ee
      cases ee
    refine ⟨p1, _, _, _, rfl, rfl, SqL.of (d1 _ _ np1 l1), ep, ?_⟩
    refine ⟨_, rfl, _, _, rfl, rfl, ⟨by decide, by decide, by decide⟩, w1, _, _, rfl, e2, by decide, by decide, by decide, fun r2 D2 r2a r2b d2 f2 e3 => ?_⟩
    refine ⟨_, rfl, _, _, rfl, rfl, ⟨by decide, by decide, by decide⟩, w1, _, _, rfl, e3, by decide, by decide, by decide, fun r3 D3 r3a r3b d3 f3 e4 => ⟨_, _, rfl, rfl, ⟨by decide, by decide, by decide⟩, _, _, rfl, rfl, ?_⟩⟩
    refine ⟨_, rfl, w1, _, _, rfl, e4, by decide, by decide, by decide, fun r4 D4 r4a r4b d4 f4 e5 => ⟨_, _, rfl, rfl, (by show 2 ≤ sizeLine; decide), fun q1 hq1 => ?_⟩⟩
    generalize hU : upd _ q1 _ = G2
    have g1 : G2 q1 = some (.tup [.int 1, .int (1 + r4)]) := by
      rw [← hU]
      exact upd_same
    clear hU
    refine ⟨(by show 1 ≤ sizeLine; decide), fun q2 hq2 => ?_⟩
    generalize hU : upd _ q2 _ = G3
    have m2 : Same G2 G3 := by
      rw [← hU]
      exact same_new hq2
    have g2 : G3 q2 = some (.lst [.ref q1]) := by
      rw [← hU]
      exact upd_same
    clear hU
    refine ⟨(by show 1 ≤ sizeLine; decide), fun q3 hq3 => ?_⟩
    generalize hU : upd _ q3 _ = G4
    have m3 : Same G3 G4 := by
      rw [← hU]
      exact same_new hq3
    have g3 : G4 q3 = some (.lst [.ref q2]) := by
      rw [← hU]
      exact upd_same
    clear hU
    refine ⟨(by show 2 ≤ sizeLine; decide), fun q4 hq4 => ?_⟩
    generalize hU : upd _ q4 _ = G5
    have m4 : Same G4 G5 := by
      rw [← hU]
      exact same_new hq4
    have g4 : G5 q4 = some (.tup [.str "ring", .ref q3]) := by
      rw [← hU]
      exact upd_same
    clear hU
    have shD : ∀ G, Same G5 G → Dp K G (.ref q4) (sheetD (1 + r4)) := fun G s =>
      .tup (SqT.of (s _ _ g4)) (.cons (.str _) (.cons (.lst (SqL.of (s _ _ (m4 _ _ g3))) (.cons (.lst (SqL.of (s _ _ (m4 _ _ (m3 _ _ g2)))) (.cons (.tup (SqT.of (s _ _ (m4 _ _ (m3 _ _ (m2 _ _ g1))))) (.cons (.int _) (.cons (.int _) .nil))) .nil)) .nil)) .nil))
    have hon : Nm (.int r2) := ⟨r2, rfl, r2a, Int.lt_trans r2b (by decide)⟩
    have htw : Nm (.int (r3 + 10 ^ (9 : Int).toNat)) := by
      refine ⟨_, rfl, ?_, ?_⟩
      · exact Int.add_nonneg r3a (by decide)
      · exact Int.lt_of_lt_of_le (Int.add_lt_add_right r3b _) (by decide)
    have hsp : Sh po := by
      obtain ⟨x, e, l, -⟩ := hpo
      exact ⟨x, e, Nat.le_trans l (by decide)⟩
    refine ⟨_, rfl, _, rfl, _, rfl, _, rfl, _, _, _, _, rfl, hsp, hon, htw, fun p es M s5 hp hl h18 he => ?_⟩
    refine ⟨_, rfl, p, _, rfl, SqL.of hl, ?_⟩
    refine for_it (walk_enum (K := K) (a := p) (xs := es.map V.ref)) (fun i σ G => ∃ y7 y8 y9 : Option V, σ = [some (.ref a), some (.ref w1), some po, some (.int r2), some (.int (r3 + 10 ^ (9 : Int).toNat)), some (.ref q4), some (.ref p), y7, y8, y9] ∧ Same M G) ⟨none, none, none, rfl, Same.refl _⟩ (fun i σ G _ hP => ?_) (fun i v σ G G' hi hP hY => ?_) (fun σ G hP => ?_)
    · obtain ⟨y7, y8, y9, rfl, s6⟩ := hP
      exact SqL.of (s6 _ _ hl)
    · obtain ⟨y7, y8, y9, rfl, s6⟩ := hP
      obtain ⟨Tp, u, v', rfl, nT, rfl, e1, e2⟩ := hY
      cases e1
      have s7 : Same G (upd G Tp (.tup [.int (i : Nat), v'])) := same_new nT
      have gT : (upd G Tp (.tup [.int (i : Nat), v'])) Tp = some (.tup [.int (i : Nat), v']) := upd_same
      generalize upd G Tp (.tup [.int (i : Nat), v']) = GA at s7 gT ⊢
      replace e2 : (es.map V.ref)[i]? = some v' := e2
      obtain ⟨ea, ee, rfl⟩ : ∃ ea, es[i]? = some ea ∧ V.ref ea = v' := by simpa using e2
      have i18 : i < 18 := by
        have := (List.getElem?_eq_some_iff.mp ee).1
        omega
      refine ⟨Tp, _, rfl, SqT.of gT, rfl, _, _, rfl, _, _, rfl, rfl, ?_⟩
      refine ⟨_, rfl, ea, i, rfl, i18, (he i ea ee).same (s6.trans s7), fun mp GB s8 hmp lmp => ?_⟩
      have lL : ((es.map V.ref).length : Int) = 18 := by
        rw [List.length_map, h18]
        rfl
      refine ⟨_, rfl, p, _, rfl, .inl (SqL.of (((s6.trans s7).trans s8) _ _ hl)), _, rfl, by rw [lL]; decide, by rw [lL]; decide, fun D hD => ?_⟩
      rw [lL]
      refine lc_it walk_range (fun j X => Same GB X ∧ X D = some (.lst ((List.range j).map fun k => V.bl (decide (i = k))))) ⟨same_new hD, upd_same⟩ (fun _ _ _ _ => trivial) (fun j x X X' hj hP hY => ?_) (fun X hP => ?_)
      · obtain ⟨s9, hd⟩ := hP
        obtain ⟨rfl, rfl⟩ := hY
        have j18 : j < 18 := hj
        refine ⟨rfl, _, rfl, _, rfl, rfl, _, hd, ?_, ?_, ?_⟩
        · rw [List.length_map, List.length_range, sizeLine_eq]
          omega
        · intro b o e
          rw [upd_ne (ne_of_none e hD)]
          exact s9 _ _ e
        · rw [upd_same, range_snoc]
          have ev : decide (V.int (i : Int) = V.int (0 + (j : Int))) = decide (i = j) := by
            apply decide_eq_decide.mpr
            constructor
            · intro z
              injection z with z
              omega
            · intro z
              subst z
              rw [Int.zero_add]
          show some (HO.lst (_ ++ [V.bl (decide (V.int (i : Int) = V.int (0 + (j : Int))))])) = _
          rw [ev]
      · obtain ⟨s9, hd⟩ := hP
        refine ⟨_, _, .lst (SqL.of (s9 _ _ lmp)) (dp_mks _ _), .lst (SqL.of hd) (dp_mks _ _), sh_md i i18, sh_md i i18, ?_⟩
        refine ⟨_, rfl, iteC (d := false) (by rw [eqv_of (sh_md i i18)]; rfl) (iteF ?_)⟩
        have ie := (he i ea ee).same (((s6.trans s7).trans s8).trans s9)
        refine ⟨_, rfl, ea, Ca i, _, _, _, rfl, ie, onlyR, T.kE i i18, _, rfl, iteF ?_⟩
        refine ⟨_, rfl, ea, Ca i, _, _, _, rfl, ie, onlyT, T.kA i i18, _, rfl, iteF ?_⟩
        refine ⟨_, rfl, (by show 2 ≤ sizeLine; decide), fun tp htp => ?_⟩
        refine ⟨ea, Ca i, tp, _, _, _, rfl, ie.same (same_new htp), upd_same, .cons (.ty _) (.cons (.ty _) .nil), T.kV i i18, _, rfl, iteF ?_⟩
        exact ⟨_, _, _, rfl, (((s6.trans s7).trans s8).trans s9).trans (same_new htp)⟩
    · obtain ⟨y7, y8, y9, rfl, s6⟩ := hP
      refine ⟨by decide, fun x1 hx1 => ?_⟩
      generalize hU : upd _ x1 _ = GX
      obtain ⟨nx, ix⟩ := fresh0 T.xcE hx1 hU
      clear hU
      refine ⟨(by show 2 ≤ sizeLine; decide), fun tp htp => ?_⟩
      refine ⟨x1, CE, tp, _, _, _, rfl, ix.same (same_new htp), upd_same, .cons (.own _) (.cons (.own _) .nil), T.k2, _, rfl, iteF ?_⟩
      have nt := same_new (o := .tup [.ref (Ca 0), .ref (Ca 8)]) htp
      generalize upd GX tp _ = GY at nt ⊢
      refine ⟨by decide, fun x2 hx2 => ?_⟩
      generalize hU : upd _ x2 _ = GZ
      obtain ⟨nz, iz⟩ := fresh0 T.xcE hx2 hU
      clear hU
      refine ⟨x2, CE, _, _, _, rfl, iz, onlyT, T.k3, _, rfl, iteF ?_⟩
      have sz := (((s5.trans s6).trans nx).trans nt).trans nz
      exact ⟨_, rfl, _, rfl, _, rfl, _, rfl, po, _, _, _, _, rfl, hpo, hon, htw, fun G sG => shD G (sz.trans sG), fun H' _ => q H'⟩
end
end E1

namespace E1
open PySem PySem.Spec PyProof.Rows L2
theorem all_mk {l : PySem.W.OpenLaw} {w : World} {K : PySem.W.Frag} {h : Heap} {mg : Str → Option Value} {fa : Addr} {CE : Addr} {Cx0 : Addr} {Cx1 : Addr} {Cx2 : Addr} {Cx3 : Addr} {Cx4 : Addr} {Cx5 : Addr} {Cx6 : Addr} {Cx7 : Addr} {Cx8 : Addr} {Cx9 : Addr} {Cx10 : Addr} {Cx11 : Addr} {Cx12 : Addr} {Cx13 : Addr} {Cx14 : Addr} {Cx15 : Addr} {Cx16 : Addr} {Cx17 : Addr} (e_CE : He.ga K "EchoError" = CE) (e_Cx0 : He.ga K "NoFraction" = Cx0) (e_Cx1 : He.ga K "BadForm" = Cx1) (e_Cx2 : He.ga K "Unfit" = Cx2) (e_Cx3 : He.ga K "NoMatrix" = Cx3) (e_Cx4 : He.ga K "NoSeries" = Cx4) (e_Cx5 : He.ga K "NotStill" = Cx5) (e_Cx6 : He.ga K "TooSlow" = Cx6) (e_Cx7 : He.ga K "BadNet" = Cx7) (e_Cx8 : He.ga K "BadState" = Cx8) (e_Cx9 : He.ga K "NoTurn" = Cx9) (e_Cx10 : He.ga K "NoWords" = Cx10) (e_Cx11 : He.ga K "TooMany" = Cx11) (e_Cx12 : He.ga K "NoState" = Cx12) (e_Cx13 : He.ga K "NotFree" = Cx13) (e_Cx14 : He.ga K "NoChoice" = Cx14) (e_Cx15 : He.ga K "NoText" = Cx15) (e_Cx16 : He.ga K "NoLine" = Cx16) (e_Cx17 : He.ga K "NoName" = Cx17) (X : K.In h) (G : h.Ns mainGlobals mg) (hfa : mg "law" = some (.ref fa)) (hfile : (l.prog.main.file : Str) = "/claim/cut.py") (htop : (l.prog.main.scope.names.lookup ("super" : Str)).isSome = false) (c : SaysY FA FN TS EXB ER w K) :
    ∃ fd : FuncData, (∀ (s : Shared) (v : Value), BindsTo s fd ⟨[v], []⟩ [("_law_script", v)]) ∧ ∀ base : Heap, K.In base → base.Ns mainGlobals mg → FnOk l.prog w K mg base CX0 2 fa fd ["_law_script"] (spLaw K) := by
  obtain ⟨fd__law_cell_at, F0__law_cell_at⟩ := c.t.d.def_ 0 (d := dd__law_cell_at) rfl
  have F__law_cell_at : Fun K "_law_cell_at" "_law_cell_at" s__law_cell_at (He.ga K "_law_cell_at") fd__law_cell_at := fun_of F0__law_cell_at
  have k__law_cell_at := F__law_cell_at.kp
  have a__law_cell_at : PySem.W.nsIn K mainGlobals "_law_cell_at" = some (some (.ref (He.ga K "_law_cell_at"))) := He.eqO_ok (c.t.d.fact 0 (f := .glo "_law_cell_at") rfl)
  have b__law_cell_at := F__law_cell_at.binds (ps := ["_law_script", "_law_k"]) fun _ _ _ _ _ _ us hl => match us, hl with | [_, _], _ => rfl
  obtain ⟨fd__law_well, F0__law_well⟩ := c.t.d.def_ 1 (d := dd__law_well) rfl
  have F__law_well : Fun K "_law_well" "_law_well" s__law_well (He.ga K "_law_well") fd__law_well := fun_of F0__law_well
  have k__law_well := F__law_well.kp
  have a__law_well : PySem.W.nsIn K mainGlobals "_law_well" = some (some (.ref (He.ga K "_law_well"))) := He.eqO_ok (c.t.d.fact 1 (f := .glo "_law_well") rfl)
  have b__law_well := F__law_well.binds (ps := ["_law_cell"]) fun _ _ _ _ _ _ us hl => match us, hl with | [_], _ => rfl
  obtain ⟨fd__law_draw, F0__law_draw⟩ := c.t.d.def_ 2 (d := dd__law_draw) rfl
  have F__law_draw : Fun K "_law_draw" "_law_draw" s__law_draw (He.ga K "_law_draw") fd__law_draw := fun_of F0__law_draw
  have k__law_draw := F__law_draw.kp
  have a__law_draw : PySem.W.nsIn K mainGlobals "_law_draw" = some (some (.ref (He.ga K "_law_draw"))) := He.eqO_ok (c.t.d.fact 2 (f := .glo "_law_draw") rfl)
  have b__law_draw := F__law_draw.binds (ps := ["_law_well_here", "_law_much"]) fun _ _ _ _ _ _ us hl => match us, hl with | [_, _], _ => rfl
  obtain ⟨fd__law_marks, F0__law_marks⟩ := c.t.d.def_ 3 (d := dd__law_marks) rfl
  have F__law_marks : Fun K "_law_marks" "_law_marks" s__law_marks (He.ga K "_law_marks") fd__law_marks := fun_of F0__law_marks
  have k__law_marks := F__law_marks.kp
  have a__law_marks : PySem.W.nsIn K mainGlobals "_law_marks" = some (some (.ref (He.ga K "_law_marks"))) := He.eqO_ok (c.t.d.fact 3 (f := .glo "_law_marks") rfl)
  have b__law_marks := F__law_marks.binds (ps := ["_law_e"]) fun _ _ _ _ _ _ us hl => match us, hl with | [_], _ => rfl
  obtain ⟨fd__law_made, F0__law_made⟩ := c.t.d.def_ 4 (d := dd__law_made) rfl
  have F__law_made : Fun K "_law_made" "_law_made" s__law_made (He.ga K "_law_made") fd__law_made := fun_of F0__law_made
  have k__law_made := F__law_made.kp
  have a__law_made : PySem.W.nsIn K mainGlobals "_law_made" = some (some (.ref (He.ga K "_law_made"))) := He.eqO_ok (c.t.d.fact 4 (f := .glo "_law_made") rfl)
  have b__law_made := F__law_made.binds (ps := ["_law_portion", "_law_one", "_law_two", "_law_sheet"]) fun _ _ _ _ _ _ us hl => match us, hl with | [_, _, _, _], _ => rfl
  obtain ⟨fd__law_fields, F0__law_fields⟩ := c.t.d.def_ 5 (d := dd__law_fields) rfl
  have F__law_fields : Fun K "_law_fields" "_law_fields" s__law_fields (He.ga K "_law_fields") fd__law_fields := fun_of F0__law_fields
  have k__law_fields := F__law_fields.kp
  have a__law_fields : PySem.W.nsIn K mainGlobals "_law_fields" = some (some (.ref (He.ga K "_law_fields"))) := He.eqO_ok (c.t.d.fact 5 (f := .glo "_law_fields") rfl)
  have b__law_fields := F__law_fields.binds (ps := ["_law_portion", "_law_one", "_law_two", "_law_sheet"]) fun _ _ _ _ _ _ us hl => match us, hl with | [_, _, _, _], _ => rfl
  obtain ⟨fd_law, F0_law⟩ := c.t.d.def_ 6 (d := dd_law) rfl
  have F_law : Fun K "law" "law" s_law (He.ga K "law") fd_law := fun_of F0_law
  have k_law := F_law.kp
  have a_law : PySem.W.nsIn K mainGlobals "law" = some (some (.ref (He.ga K "law"))) := He.eqO_ok (c.t.d.fact 6 (f := .glo "law") rfl)
  have b_law := F_law.binds (ps := ["_law_script"]) fun _ _ _ _ _ _ us hl => match us, hl with | [_], _ => rfl
  have zf_len : mg "len" = none := He.free_ok X G (c.t.d.fact 7 (f := .free "len") rfl)
  have zf_int : mg "int" = none := He.free_ok X G (c.t.d.fact 8 (f := .free "int") rfl)
  have zf_isinstance : mg "isinstance" = none := He.free_ok X G (c.t.d.fact 9 (f := .free "isinstance") rfl)
  have zf_enumerate : mg "enumerate" = none := He.free_ok X G (c.t.d.fact 10 (f := .free "enumerate") rfl)
  have zf_range : mg "range" = none := He.free_ok X G (c.t.d.fact 11 (f := .free "range") rfl)
  have zf_ValueError : mg "ValueError" = none := He.free_ok X G (c.t.d.fact 12 (f := .free "ValueError") rfl)
  have zf_KeyError : mg "KeyError" = none := He.free_ok X G (c.t.d.fact 13 (f := .free "KeyError") rfl)
  have aC_CE : PySem.W.nsIn K mainGlobals "EchoError" = some (some (.ref CE)) := by
    rw [← e_CE]
    exact He.eqO_ok (c.t.d.fact 14 (f := .glo "EchoError") rfl)
  have ga_CE : PySem.W.findIn K (.ref (He.ga K "EchoError")) "__getattribute__" = some (some (.builtin "BaseException.__getattribute__")) := of_decide_eq_true (ex_at c.more (i := 0) (b := decide (PySem.W.findIn K (.ref (He.ga K "EchoError")) "__getattribute__" = some (some (.builtin "BaseException.__getattribute__")))) rfl)
  rw [e_CE] at ga_CE
  have gg_CE : PySem.W.findIn K (.ref (He.ga K "EchoError")) "__getattr__" = some none := of_decide_eq_true (ex_at c.more (i := 1) (b := decide (PySem.W.findIn K (.ref (He.ga K "EchoError")) "__getattr__" = some none)) rfl)
  rw [e_CE] at gg_CE
  have ex_CE : PySem.W.subIn K (.ref (He.ga K "EchoError")) (.type "BaseException") = some true := of_decide_eq_true (ex_at c.more (i := 2) (b := decide (PySem.W.subIn K (.ref (He.ga K "EchoError")) (.type "BaseException") = some true)) rfl)
  rw [e_CE] at ex_CE
  have hd_CE : PySem.W.hasDictIn K (He.ga K "EchoError") = true := of_decide_eq_true (ex_at c.more (i := 3) (b := decide (PySem.W.hasDictIn K (He.ga K "EchoError") = true)) rfl)
  rw [e_CE] at hd_CE
  have ha_CE : PySem.W.findIn K (.ref (He.ga K "EchoError")) "__class__" = some (some (.builtin "object.__class__")) := of_decide_eq_true (ex_at c.more (i := 4) (b := decide (PySem.W.findIn K (.ref (He.ga K "EchoError")) "__class__" = some (some (.builtin "object.__class__")))) rfl)
  rw [e_CE] at ha_CE
  have hn_CE : PySem.W.specialIn K (.builtin "object.__class__") "__get__" = some (some (.builtin "getset_descriptor.__get__")) := of_decide_eq_true (ex_at c.more (i := 5) (b := decide (PySem.W.specialIn K (.builtin "object.__class__") "__get__" = some (some (.builtin "getset_descriptor.__get__")))) rfl)
  have ht_CE : PySem.W.takesIn K (.builtin "object.__class__") = some true := of_decide_eq_true (ex_at c.more (i := 6) (b := decide (PySem.W.takesIn K (.builtin "object.__class__") = some true)) rfl)
  have hm_CE : PySem.W.mroIn K (He.ga K "EchoError") (.type "object") = some true := of_decide_eq_true (ex_at c.more (i := 7) (b := decide (PySem.W.mroIn K (He.ga K "EchoError") (.type "object") = some true)) rfl)
  rw [e_CE] at hm_CE
  have xi_CE : PySem.W.excIn K (He.ga K "EchoError") PySem.ErrX.bmA "ArithmeticError.__new__" = true := of_decide_eq_true (ex_at c.more (i := 8) (b := decide (PySem.W.excIn K (He.ga K "EchoError") PySem.ErrX.bmA "ArithmeticError.__new__" = true)) rfl)
  rw [e_CE] at xi_CE
  have kp_CE : PySem.W.keepIn K (.ref (He.ga K "EchoError")) = true := of_decide_eq_true (ex_at c.more (i := 9) (b := decide (PySem.W.keepIn K (.ref (He.ga K "EchoError")) = true)) rfl)
  rw [e_CE] at kp_CE
  have aC_Cx0 : PySem.W.nsIn K mainGlobals "NoFraction" = some (some (.ref Cx0)) := by
    rw [← e_Cx0]
    exact He.eqO_ok (c.t.d.fact 15 (f := .glo "NoFraction") rfl)
  have ga_Cx0 : PySem.W.findIn K (.ref (He.ga K "NoFraction")) "__getattribute__" = some (some (.builtin "BaseException.__getattribute__")) := of_decide_eq_true (ex_at c.more (i := 10) (b := decide (PySem.W.findIn K (.ref (He.ga K "NoFraction")) "__getattribute__" = some (some (.builtin "BaseException.__getattribute__")))) rfl)
  rw [e_Cx0] at ga_Cx0
  have gg_Cx0 : PySem.W.findIn K (.ref (He.ga K "NoFraction")) "__getattr__" = some none := of_decide_eq_true (ex_at c.more (i := 11) (b := decide (PySem.W.findIn K (.ref (He.ga K "NoFraction")) "__getattr__" = some none)) rfl)
  rw [e_Cx0] at gg_Cx0
  have ex_Cx0 : PySem.W.subIn K (.ref (He.ga K "NoFraction")) (.type "BaseException") = some true := of_decide_eq_true (ex_at c.more (i := 12) (b := decide (PySem.W.subIn K (.ref (He.ga K "NoFraction")) (.type "BaseException") = some true)) rfl)
  rw [e_Cx0] at ex_Cx0
  have hd_Cx0 : PySem.W.hasDictIn K (He.ga K "NoFraction") = true := of_decide_eq_true (ex_at c.more (i := 13) (b := decide (PySem.W.hasDictIn K (He.ga K "NoFraction") = true)) rfl)
  rw [e_Cx0] at hd_Cx0
  have ha_Cx0 : PySem.W.findIn K (.ref (He.ga K "NoFraction")) "__class__" = some (some (.builtin "object.__class__")) := of_decide_eq_true (ex_at c.more (i := 14) (b := decide (PySem.W.findIn K (.ref (He.ga K "NoFraction")) "__class__" = some (some (.builtin "object.__class__")))) rfl)
  rw [e_Cx0] at ha_Cx0
  have hn_Cx0 : PySem.W.specialIn K (.builtin "object.__class__") "__get__" = some (some (.builtin "getset_descriptor.__get__")) := of_decide_eq_true (ex_at c.more (i := 15) (b := decide (PySem.W.specialIn K (.builtin "object.__class__") "__get__" = some (some (.builtin "getset_descriptor.__get__")))) rfl)
  have ht_Cx0 : PySem.W.takesIn K (.builtin "object.__class__") = some true := of_decide_eq_true (ex_at c.more (i := 16) (b := decide (PySem.W.takesIn K (.builtin "object.__class__") = some true)) rfl)
  have hm_Cx0 : PySem.W.mroIn K (He.ga K "NoFraction") (.type "object") = some true := of_decide_eq_true (ex_at c.more (i := 17) (b := decide (PySem.W.mroIn K (He.ga K "NoFraction") (.type "object") = some true)) rfl)
  rw [e_Cx0] at hm_Cx0
  have xi_Cx0 : PySem.W.excIn K (He.ga K "NoFraction") PySem.ErrX.bmA "ArithmeticError.__new__" = true := of_decide_eq_true (ex_at c.more (i := 18) (b := decide (PySem.W.excIn K (He.ga K "NoFraction") PySem.ErrX.bmA "ArithmeticError.__new__" = true)) rfl)
  rw [e_Cx0] at xi_Cx0
  have kp_Cx0 : PySem.W.keepIn K (.ref (He.ga K "NoFraction")) = true := of_decide_eq_true (ex_at c.more (i := 19) (b := decide (PySem.W.keepIn K (.ref (He.ga K "NoFraction")) = true)) rfl)
  rw [e_Cx0] at kp_Cx0
  have aC_Cx1 : PySem.W.nsIn K mainGlobals "BadForm" = some (some (.ref Cx1)) := by
    rw [← e_Cx1]
    exact He.eqO_ok (c.t.d.fact 16 (f := .glo "BadForm") rfl)
  have ei_Cx1 : PySem.W.excInitIn K (He.ga K "BadForm") PySem.ErrX.bmA "ArithmeticError.__new__" = true := of_decide_eq_true (ex_at c.more (i := 20) (b := decide (PySem.W.excInitIn K (He.ga K "BadForm") PySem.ErrX.bmA "ArithmeticError.__new__" = true)) rfl)
  rw [e_Cx1] at ei_Cx1
  have eo_Cx1 : PySem.W.excOver K (He.ga K "BadForm") PySem.ErrX.bmA = true := of_decide_eq_true (ex_at c.more (i := 21) (b := decide (PySem.W.excOver K (He.ga K "BadForm") PySem.ErrX.bmA = true)) rfl)
  rw [e_Cx1] at eo_Cx1
  have sa_Cx1 : PySem.W.findIn K (.ref (He.ga K "BadForm")) "__setattr__" = some (some (.builtin "object.__setattr__")) := of_decide_eq_true (ex_at c.more (i := 22) (b := decide (PySem.W.findIn K (.ref (He.ga K "BadForm")) "__setattr__" = some (some (.builtin "object.__setattr__")))) rfl)
  rw [e_Cx1] at sa_Cx1
  have ga_Cx1 : PySem.W.findIn K (.ref (He.ga K "BadForm")) "__getattribute__" = some (some (.builtin "BaseException.__getattribute__")) := of_decide_eq_true (ex_at c.more (i := 23) (b := decide (PySem.W.findIn K (.ref (He.ga K "BadForm")) "__getattribute__" = some (some (.builtin "BaseException.__getattribute__")))) rfl)
  rw [e_Cx1] at ga_Cx1
  have gg_Cx1 : PySem.W.findIn K (.ref (He.ga K "BadForm")) "__getattr__" = some none := of_decide_eq_true (ex_at c.more (i := 24) (b := decide (PySem.W.findIn K (.ref (He.ga K "BadForm")) "__getattr__" = some none)) rfl)
  rw [e_Cx1] at gg_Cx1
  have kC_Cx1 : PySem.W.keepIn K (.ref (He.ga K "BadForm")) = true := of_decide_eq_true (ex_at c.more (i := 25) (b := decide (PySem.W.keepIn K (.ref (He.ga K "BadForm")) = true)) rfl)
  rw [e_Cx1] at kC_Cx1
  have ex_Cx1 : PySem.W.subIn K (.ref (He.ga K "BadForm")) (.type "BaseException") = some true := of_decide_eq_true (ex_at c.more (i := 26) (b := decide (PySem.W.subIn K (.ref (He.ga K "BadForm")) (.type "BaseException") = some true)) rfl)
  rw [e_Cx1] at ex_Cx1
  have ty_Cx1 : PySem.W.typeIn K (.ref (He.ga K "BadForm")) = some (.type "type") := of_decide_eq_true (ex_at c.more (i := 27) (b := decide (PySem.W.typeIn K (.ref (He.ga K "BadForm")) = some (.type "type"))) rfl)
  rw [e_Cx1] at ty_Cx1
  have hd_Cx1 : PySem.W.hasDictIn K (He.ga K "BadForm") = true := of_decide_eq_true (ex_at c.more (i := 28) (b := decide (PySem.W.hasDictIn K (He.ga K "BadForm") = true)) rfl)
  rw [e_Cx1] at hd_Cx1
  have ha_Cx1 : PySem.W.findIn K (.ref (He.ga K "BadForm")) "__class__" = some (some (.builtin "object.__class__")) := of_decide_eq_true (ex_at c.more (i := 29) (b := decide (PySem.W.findIn K (.ref (He.ga K "BadForm")) "__class__" = some (some (.builtin "object.__class__")))) rfl)
  rw [e_Cx1] at ha_Cx1
  have hn_Cx1 : PySem.W.specialIn K (.builtin "object.__class__") "__get__" = some (some (.builtin "getset_descriptor.__get__")) := of_decide_eq_true (ex_at c.more (i := 30) (b := decide (PySem.W.specialIn K (.builtin "object.__class__") "__get__" = some (some (.builtin "getset_descriptor.__get__")))) rfl)
  have ht_Cx1 : PySem.W.takesIn K (.builtin "object.__class__") = some true := of_decide_eq_true (ex_at c.more (i := 31) (b := decide (PySem.W.takesIn K (.builtin "object.__class__") = some true)) rfl)
  have hm_Cx1 : PySem.W.mroIn K (He.ga K "BadForm") (.type "object") = some true := of_decide_eq_true (ex_at c.more (i := 32) (b := decide (PySem.W.mroIn K (He.ga K "BadForm") (.type "object") = some true)) rfl)
  rw [e_Cx1] at hm_Cx1
  have iC_Cx1 : PySem.W.findIn K (.ref (He.ga K "BadForm")) "__init__" = some (some (.ref (iniA K "BadForm"))) := of_decide_eq_true (ex_at c.more (i := 33) (b := decide (PySem.W.findIn K (.ref (He.ga K "BadForm")) "__init__" = some (some (.ref (iniA K "BadForm"))))) rfl)
  rw [e_Cx1] at iC_Cx1
  have tC_Cx1 : PySem.W.typeIn K (.ref (iniA K "BadForm")) = some (.type "function") := of_decide_eq_true (ex_at c.more (i := 34) (b := decide (PySem.W.typeIn K (.ref (iniA K "BadForm")) = some (.type "function"))) rfl)
  have nf_Cx1 : PySem.W.findIn K (.ref (He.ga K "BadForm")) "part" = some none := of_decide_eq_true (ex_at c.more (i := 35) (b := decide (PySem.W.findIn K (.ref (He.ga K "BadForm")) "part" = some none)) rfl)
  rw [e_Cx1] at nf_Cx1
  have su_Cx1 : PySem.W.ks_superIn K (He.ga K "BadForm") (He.ga K "BadForm") "__init__" = some (some (.builtin "ArithmeticError.__init__")) := of_decide_eq_true (ex_at c.more (i := 36) (b := decide (PySem.W.ks_superIn K (He.ga K "BadForm") (He.ga K "BadForm") "__init__" = some (some (.builtin "ArithmeticError.__init__")))) rfl)
  rw [e_Cx1] at su_Cx1
  have sA_Cx1 : PySem.W.subIn K (.ref (He.ga K "BadForm")) (.type "ArithmeticError") = some true := of_decide_eq_true (ex_at c.more (i := 37) (b := decide (PySem.W.subIn K (.ref (He.ga K "BadForm")) (.type "ArithmeticError") = some true)) rfl)
  rw [e_Cx1] at sA_Cx1
  have sf_Cx1 : PySem.W.mroIn K (He.ga K "BadForm") (.ref (He.ga K "BadForm")) = some true := of_decide_eq_true (ex_at c.more (i := 38) (b := decide (PySem.W.mroIn K (He.ga K "BadForm") (.ref (He.ga K "BadForm")) = some true)) rfl)
  rw [e_Cx1] at sf_Cx1
  have th_Cx1 : PySem.W.nsIn K cStatics "thirdparty.any" = some none := of_decide_eq_true (ex_at c.more (i := 39) (b := decide (PySem.W.nsIn K cStatics "thirdparty.any" = some none)) rfl)
  have ms_Cx1 : PySem.W.nsIn K mainGlobals "super" = some none := of_decide_eq_true (ex_at c.more (i := 40) (b := decide (PySem.W.nsIn K mainGlobals "super" = some none)) rfl)
  obtain ⟨cc_Cx1, dV_Cx1, ih_Cx1⟩ := errD_ok (d := ed_Cx1) hfile (ini_at c.ini (i := 0) rfl) (ex_at c.more (i := 41) (b := ed_Cx1.ok K) rfl)
  have EC_Cx1 : PySem.ErrX.ErrC K mg "BadForm" Cx1 := ⟨PySem.W.mg_of X G aC_Cx1, ei_Cx1, eo_Cx1, sa_Cx1, ga_Cx1, gg_Cx1, kC_Cx1, ex_Cx1, ty_Cx1, hd_Cx1⟩
  have cl_Cx1 := ih_Cx1.cell
  rw [show He.ga K ed_Cx1.x = Cx1 from e_Cx1] at cl_Cx1
  have IC_Cx1 : PySem.ErrX.IniC l.prog K mg Cx1 (iniA K "BadForm") cc_Cx1 "BadForm.__init__" "part" s_BadForm___init__ dV_Cx1 := ⟨iC_Cx1, tC_Cx1, ih_Cx1.fn, cl_Cx1, nf_Cx1, su_Cx1, sA_Cx1, sf_Cx1, th_Cx1, PySem.W.mg_none_of X G ms_Cx1, htop⟩
  have XC_Cx1 : ExcC K Cx1 := ⟨ga_Cx1, gg_Cx1, ex_Cx1, hd_Cx1, ha_Cx1, hn_Cx1, ht_Cx1, hm_Cx1⟩
  have aC_Cx2 : PySem.W.nsIn K mainGlobals "Unfit" = some (some (.ref Cx2)) := by
    rw [← e_Cx2]
    exact He.eqO_ok (c.t.d.fact 17 (f := .glo "Unfit") rfl)
  have ei_Cx2 : PySem.W.excInitIn K (He.ga K "Unfit") PySem.ErrX.bmA "ArithmeticError.__new__" = true := of_decide_eq_true (ex_at c.more (i := 42) (b := decide (PySem.W.excInitIn K (He.ga K "Unfit") PySem.ErrX.bmA "ArithmeticError.__new__" = true)) rfl)
  rw [e_Cx2] at ei_Cx2
  have eo_Cx2 : PySem.W.excOver K (He.ga K "Unfit") PySem.ErrX.bmA = true := of_decide_eq_true (ex_at c.more (i := 43) (b := decide (PySem.W.excOver K (He.ga K "Unfit") PySem.ErrX.bmA = true)) rfl)
  rw [e_Cx2] at eo_Cx2
  have sa_Cx2 : PySem.W.findIn K (.ref (He.ga K "Unfit")) "__setattr__" = some (some (.builtin "object.__setattr__")) := of_decide_eq_true (ex_at c.more (i := 44) (b := decide (PySem.W.findIn K (.ref (He.ga K "Unfit")) "__setattr__" = some (some (.builtin "object.__setattr__")))) rfl)
  rw [e_Cx2] at sa_Cx2
  have ga_Cx2 : PySem.W.findIn K (.ref (He.ga K "Unfit")) "__getattribute__" = some (some (.builtin "BaseException.__getattribute__")) := of_decide_eq_true (ex_at c.more (i := 45) (b := decide (PySem.W.findIn K (.ref (He.ga K "Unfit")) "__getattribute__" = some (some (.builtin "BaseException.__getattribute__")))) rfl)
  rw [e_Cx2] at ga_Cx2
  have gg_Cx2 : PySem.W.findIn K (.ref (He.ga K "Unfit")) "__getattr__" = some none := of_decide_eq_true (ex_at c.more (i := 46) (b := decide (PySem.W.findIn K (.ref (He.ga K "Unfit")) "__getattr__" = some none)) rfl)
  rw [e_Cx2] at gg_Cx2
  have kC_Cx2 : PySem.W.keepIn K (.ref (He.ga K "Unfit")) = true := of_decide_eq_true (ex_at c.more (i := 47) (b := decide (PySem.W.keepIn K (.ref (He.ga K "Unfit")) = true)) rfl)
  rw [e_Cx2] at kC_Cx2
  have ex_Cx2 : PySem.W.subIn K (.ref (He.ga K "Unfit")) (.type "BaseException") = some true := of_decide_eq_true (ex_at c.more (i := 48) (b := decide (PySem.W.subIn K (.ref (He.ga K "Unfit")) (.type "BaseException") = some true)) rfl)
  rw [e_Cx2] at ex_Cx2
  have ty_Cx2 : PySem.W.typeIn K (.ref (He.ga K "Unfit")) = some (.type "type") := of_decide_eq_true (ex_at c.more (i := 49) (b := decide (PySem.W.typeIn K (.ref (He.ga K "Unfit")) = some (.type "type"))) rfl)
  rw [e_Cx2] at ty_Cx2
  have hd_Cx2 : PySem.W.hasDictIn K (He.ga K "Unfit") = true := of_decide_eq_true (ex_at c.more (i := 50) (b := decide (PySem.W.hasDictIn K (He.ga K "Unfit") = true)) rfl)
  rw [e_Cx2] at hd_Cx2
  have ha_Cx2 : PySem.W.findIn K (.ref (He.ga K "Unfit")) "__class__" = some (some (.builtin "object.__class__")) := of_decide_eq_true (ex_at c.more (i := 51) (b := decide (PySem.W.findIn K (.ref (He.ga K "Unfit")) "__class__" = some (some (.builtin "object.__class__")))) rfl)
  rw [e_Cx2] at ha_Cx2
  have hn_Cx2 : PySem.W.specialIn K (.builtin "object.__class__") "__get__" = some (some (.builtin "getset_descriptor.__get__")) := of_decide_eq_true (ex_at c.more (i := 52) (b := decide (PySem.W.specialIn K (.builtin "object.__class__") "__get__" = some (some (.builtin "getset_descriptor.__get__")))) rfl)
  have ht_Cx2 : PySem.W.takesIn K (.builtin "object.__class__") = some true := of_decide_eq_true (ex_at c.more (i := 53) (b := decide (PySem.W.takesIn K (.builtin "object.__class__") = some true)) rfl)
  have hm_Cx2 : PySem.W.mroIn K (He.ga K "Unfit") (.type "object") = some true := of_decide_eq_true (ex_at c.more (i := 54) (b := decide (PySem.W.mroIn K (He.ga K "Unfit") (.type "object") = some true)) rfl)
  rw [e_Cx2] at hm_Cx2
  have iC_Cx2 : PySem.W.findIn K (.ref (He.ga K "Unfit")) "__init__" = some (some (.ref (iniA K "Unfit"))) := of_decide_eq_true (ex_at c.more (i := 55) (b := decide (PySem.W.findIn K (.ref (He.ga K "Unfit")) "__init__" = some (some (.ref (iniA K "Unfit"))))) rfl)
  rw [e_Cx2] at iC_Cx2
  have tC_Cx2 : PySem.W.typeIn K (.ref (iniA K "Unfit")) = some (.type "function") := of_decide_eq_true (ex_at c.more (i := 56) (b := decide (PySem.W.typeIn K (.ref (iniA K "Unfit")) = some (.type "function"))) rfl)
  have nf_Cx2 : PySem.W.findIn K (.ref (He.ga K "Unfit")) "at" = some none := of_decide_eq_true (ex_at c.more (i := 57) (b := decide (PySem.W.findIn K (.ref (He.ga K "Unfit")) "at" = some none)) rfl)
  rw [e_Cx2] at nf_Cx2
  have su_Cx2 : PySem.W.ks_superIn K (He.ga K "Unfit") (He.ga K "Unfit") "__init__" = some (some (.builtin "ArithmeticError.__init__")) := of_decide_eq_true (ex_at c.more (i := 58) (b := decide (PySem.W.ks_superIn K (He.ga K "Unfit") (He.ga K "Unfit") "__init__" = some (some (.builtin "ArithmeticError.__init__")))) rfl)
  rw [e_Cx2] at su_Cx2
  have sA_Cx2 : PySem.W.subIn K (.ref (He.ga K "Unfit")) (.type "ArithmeticError") = some true := of_decide_eq_true (ex_at c.more (i := 59) (b := decide (PySem.W.subIn K (.ref (He.ga K "Unfit")) (.type "ArithmeticError") = some true)) rfl)
  rw [e_Cx2] at sA_Cx2
  have sf_Cx2 : PySem.W.mroIn K (He.ga K "Unfit") (.ref (He.ga K "Unfit")) = some true := of_decide_eq_true (ex_at c.more (i := 60) (b := decide (PySem.W.mroIn K (He.ga K "Unfit") (.ref (He.ga K "Unfit")) = some true)) rfl)
  rw [e_Cx2] at sf_Cx2
  have th_Cx2 : PySem.W.nsIn K cStatics "thirdparty.any" = some none := of_decide_eq_true (ex_at c.more (i := 61) (b := decide (PySem.W.nsIn K cStatics "thirdparty.any" = some none)) rfl)
  have ms_Cx2 : PySem.W.nsIn K mainGlobals "super" = some none := of_decide_eq_true (ex_at c.more (i := 62) (b := decide (PySem.W.nsIn K mainGlobals "super" = some none)) rfl)
  obtain ⟨cc_Cx2, dV_Cx2, ih_Cx2⟩ := errD_ok (d := ed_Cx2) hfile (ini_at c.ini (i := 1) rfl) (ex_at c.more (i := 63) (b := ed_Cx2.ok K) rfl)
  have EC_Cx2 : PySem.ErrX.ErrC K mg "Unfit" Cx2 := ⟨PySem.W.mg_of X G aC_Cx2, ei_Cx2, eo_Cx2, sa_Cx2, ga_Cx2, gg_Cx2, kC_Cx2, ex_Cx2, ty_Cx2, hd_Cx2⟩
  have cl_Cx2 := ih_Cx2.cell
  rw [show He.ga K ed_Cx2.x = Cx2 from e_Cx2] at cl_Cx2
  have IC_Cx2 : PySem.ErrX.IniC l.prog K mg Cx2 (iniA K "Unfit") cc_Cx2 "Unfit.__init__" "at" s_Unfit___init__ dV_Cx2 := ⟨iC_Cx2, tC_Cx2, ih_Cx2.fn, cl_Cx2, nf_Cx2, su_Cx2, sA_Cx2, sf_Cx2, th_Cx2, PySem.W.mg_none_of X G ms_Cx2, htop⟩
  have XC_Cx2 : ExcC K Cx2 := ⟨ga_Cx2, gg_Cx2, ex_Cx2, hd_Cx2, ha_Cx2, hn_Cx2, ht_Cx2, hm_Cx2⟩
  have aC_Cx3 : PySem.W.nsIn K mainGlobals "NoMatrix" = some (some (.ref Cx3)) := by
    rw [← e_Cx3]
    exact He.eqO_ok (c.t.d.fact 18 (f := .glo "NoMatrix") rfl)
  have ga_Cx3 : PySem.W.findIn K (.ref (He.ga K "NoMatrix")) "__getattribute__" = some (some (.builtin "BaseException.__getattribute__")) := of_decide_eq_true (ex_at c.more (i := 64) (b := decide (PySem.W.findIn K (.ref (He.ga K "NoMatrix")) "__getattribute__" = some (some (.builtin "BaseException.__getattribute__")))) rfl)
  rw [e_Cx3] at ga_Cx3
  have gg_Cx3 : PySem.W.findIn K (.ref (He.ga K "NoMatrix")) "__getattr__" = some none := of_decide_eq_true (ex_at c.more (i := 65) (b := decide (PySem.W.findIn K (.ref (He.ga K "NoMatrix")) "__getattr__" = some none)) rfl)
  rw [e_Cx3] at gg_Cx3
  have ex_Cx3 : PySem.W.subIn K (.ref (He.ga K "NoMatrix")) (.type "BaseException") = some true := of_decide_eq_true (ex_at c.more (i := 66) (b := decide (PySem.W.subIn K (.ref (He.ga K "NoMatrix")) (.type "BaseException") = some true)) rfl)
  rw [e_Cx3] at ex_Cx3
  have hd_Cx3 : PySem.W.hasDictIn K (He.ga K "NoMatrix") = true := of_decide_eq_true (ex_at c.more (i := 67) (b := decide (PySem.W.hasDictIn K (He.ga K "NoMatrix") = true)) rfl)
  rw [e_Cx3] at hd_Cx3
  have ha_Cx3 : PySem.W.findIn K (.ref (He.ga K "NoMatrix")) "__class__" = some (some (.builtin "object.__class__")) := of_decide_eq_true (ex_at c.more (i := 68) (b := decide (PySem.W.findIn K (.ref (He.ga K "NoMatrix")) "__class__" = some (some (.builtin "object.__class__")))) rfl)
  rw [e_Cx3] at ha_Cx3
  have hn_Cx3 : PySem.W.specialIn K (.builtin "object.__class__") "__get__" = some (some (.builtin "getset_descriptor.__get__")) := of_decide_eq_true (ex_at c.more (i := 69) (b := decide (PySem.W.specialIn K (.builtin "object.__class__") "__get__" = some (some (.builtin "getset_descriptor.__get__")))) rfl)
  have ht_Cx3 : PySem.W.takesIn K (.builtin "object.__class__") = some true := of_decide_eq_true (ex_at c.more (i := 70) (b := decide (PySem.W.takesIn K (.builtin "object.__class__") = some true)) rfl)
  have hm_Cx3 : PySem.W.mroIn K (He.ga K "NoMatrix") (.type "object") = some true := of_decide_eq_true (ex_at c.more (i := 71) (b := decide (PySem.W.mroIn K (He.ga K "NoMatrix") (.type "object") = some true)) rfl)
  rw [e_Cx3] at hm_Cx3
  have xi_Cx3 : PySem.W.excIn K (He.ga K "NoMatrix") PySem.ErrX.bmA "ArithmeticError.__new__" = true := of_decide_eq_true (ex_at c.more (i := 72) (b := decide (PySem.W.excIn K (He.ga K "NoMatrix") PySem.ErrX.bmA "ArithmeticError.__new__" = true)) rfl)
  rw [e_Cx3] at xi_Cx3
  have kp_Cx3 : PySem.W.keepIn K (.ref (He.ga K "NoMatrix")) = true := of_decide_eq_true (ex_at c.more (i := 73) (b := decide (PySem.W.keepIn K (.ref (He.ga K "NoMatrix")) = true)) rfl)
  rw [e_Cx3] at kp_Cx3
  have aC_Cx4 : PySem.W.nsIn K mainGlobals "NoSeries" = some (some (.ref Cx4)) := by
    rw [← e_Cx4]
    exact He.eqO_ok (c.t.d.fact 19 (f := .glo "NoSeries") rfl)
  have ga_Cx4 : PySem.W.findIn K (.ref (He.ga K "NoSeries")) "__getattribute__" = some (some (.builtin "BaseException.__getattribute__")) := of_decide_eq_true (ex_at c.more (i := 74) (b := decide (PySem.W.findIn K (.ref (He.ga K "NoSeries")) "__getattribute__" = some (some (.builtin "BaseException.__getattribute__")))) rfl)
  rw [e_Cx4] at ga_Cx4
  have gg_Cx4 : PySem.W.findIn K (.ref (He.ga K "NoSeries")) "__getattr__" = some none := of_decide_eq_true (ex_at c.more (i := 75) (b := decide (PySem.W.findIn K (.ref (He.ga K "NoSeries")) "__getattr__" = some none)) rfl)
  rw [e_Cx4] at gg_Cx4
  have ex_Cx4 : PySem.W.subIn K (.ref (He.ga K "NoSeries")) (.type "BaseException") = some true := of_decide_eq_true (ex_at c.more (i := 76) (b := decide (PySem.W.subIn K (.ref (He.ga K "NoSeries")) (.type "BaseException") = some true)) rfl)
  rw [e_Cx4] at ex_Cx4
  have hd_Cx4 : PySem.W.hasDictIn K (He.ga K "NoSeries") = true := of_decide_eq_true (ex_at c.more (i := 77) (b := decide (PySem.W.hasDictIn K (He.ga K "NoSeries") = true)) rfl)
  rw [e_Cx4] at hd_Cx4
  have ha_Cx4 : PySem.W.findIn K (.ref (He.ga K "NoSeries")) "__class__" = some (some (.builtin "object.__class__")) := of_decide_eq_true (ex_at c.more (i := 78) (b := decide (PySem.W.findIn K (.ref (He.ga K "NoSeries")) "__class__" = some (some (.builtin "object.__class__")))) rfl)
  rw [e_Cx4] at ha_Cx4
  have hn_Cx4 : PySem.W.specialIn K (.builtin "object.__class__") "__get__" = some (some (.builtin "getset_descriptor.__get__")) := of_decide_eq_true (ex_at c.more (i := 79) (b := decide (PySem.W.specialIn K (.builtin "object.__class__") "__get__" = some (some (.builtin "getset_descriptor.__get__")))) rfl)
  have ht_Cx4 : PySem.W.takesIn K (.builtin "object.__class__") = some true := of_decide_eq_true (ex_at c.more (i := 80) (b := decide (PySem.W.takesIn K (.builtin "object.__class__") = some true)) rfl)
  have hm_Cx4 : PySem.W.mroIn K (He.ga K "NoSeries") (.type "object") = some true := of_decide_eq_true (ex_at c.more (i := 81) (b := decide (PySem.W.mroIn K (He.ga K "NoSeries") (.type "object") = some true)) rfl)
  rw [e_Cx4] at hm_Cx4
  have xi_Cx4 : PySem.W.excIn K (He.ga K "NoSeries") PySem.ErrX.bmA "ArithmeticError.__new__" = true := of_decide_eq_true (ex_at c.more (i := 82) (b := decide (PySem.W.excIn K (He.ga K "NoSeries") PySem.ErrX.bmA "ArithmeticError.__new__" = true)) rfl)
  rw [e_Cx4] at xi_Cx4
  have kp_Cx4 : PySem.W.keepIn K (.ref (He.ga K "NoSeries")) = true := of_decide_eq_true (ex_at c.more (i := 83) (b := decide (PySem.W.keepIn K (.ref (He.ga K "NoSeries")) = true)) rfl)
  rw [e_Cx4] at kp_Cx4
  have aC_Cx5 : PySem.W.nsIn K mainGlobals "NotStill" = some (some (.ref Cx5)) := by
    rw [← e_Cx5]
    exact He.eqO_ok (c.t.d.fact 20 (f := .glo "NotStill") rfl)
  have ei_Cx5 : PySem.W.excInitIn K (He.ga K "NotStill") PySem.ErrX.bmA "ArithmeticError.__new__" = true := of_decide_eq_true (ex_at c.more (i := 84) (b := decide (PySem.W.excInitIn K (He.ga K "NotStill") PySem.ErrX.bmA "ArithmeticError.__new__" = true)) rfl)
  rw [e_Cx5] at ei_Cx5
  have eo_Cx5 : PySem.W.excOver K (He.ga K "NotStill") PySem.ErrX.bmA = true := of_decide_eq_true (ex_at c.more (i := 85) (b := decide (PySem.W.excOver K (He.ga K "NotStill") PySem.ErrX.bmA = true)) rfl)
  rw [e_Cx5] at eo_Cx5
  have sa_Cx5 : PySem.W.findIn K (.ref (He.ga K "NotStill")) "__setattr__" = some (some (.builtin "object.__setattr__")) := of_decide_eq_true (ex_at c.more (i := 86) (b := decide (PySem.W.findIn K (.ref (He.ga K "NotStill")) "__setattr__" = some (some (.builtin "object.__setattr__")))) rfl)
  rw [e_Cx5] at sa_Cx5
  have ga_Cx5 : PySem.W.findIn K (.ref (He.ga K "NotStill")) "__getattribute__" = some (some (.builtin "BaseException.__getattribute__")) := of_decide_eq_true (ex_at c.more (i := 87) (b := decide (PySem.W.findIn K (.ref (He.ga K "NotStill")) "__getattribute__" = some (some (.builtin "BaseException.__getattribute__")))) rfl)
  rw [e_Cx5] at ga_Cx5
  have gg_Cx5 : PySem.W.findIn K (.ref (He.ga K "NotStill")) "__getattr__" = some none := of_decide_eq_true (ex_at c.more (i := 88) (b := decide (PySem.W.findIn K (.ref (He.ga K "NotStill")) "__getattr__" = some none)) rfl)
  rw [e_Cx5] at gg_Cx5
  have kC_Cx5 : PySem.W.keepIn K (.ref (He.ga K "NotStill")) = true := of_decide_eq_true (ex_at c.more (i := 89) (b := decide (PySem.W.keepIn K (.ref (He.ga K "NotStill")) = true)) rfl)
  rw [e_Cx5] at kC_Cx5
  have ex_Cx5 : PySem.W.subIn K (.ref (He.ga K "NotStill")) (.type "BaseException") = some true := of_decide_eq_true (ex_at c.more (i := 90) (b := decide (PySem.W.subIn K (.ref (He.ga K "NotStill")) (.type "BaseException") = some true)) rfl)
  rw [e_Cx5] at ex_Cx5
  have ty_Cx5 : PySem.W.typeIn K (.ref (He.ga K "NotStill")) = some (.type "type") := of_decide_eq_true (ex_at c.more (i := 91) (b := decide (PySem.W.typeIn K (.ref (He.ga K "NotStill")) = some (.type "type"))) rfl)
  rw [e_Cx5] at ty_Cx5
  have hd_Cx5 : PySem.W.hasDictIn K (He.ga K "NotStill") = true := of_decide_eq_true (ex_at c.more (i := 92) (b := decide (PySem.W.hasDictIn K (He.ga K "NotStill") = true)) rfl)
  rw [e_Cx5] at hd_Cx5
  have ha_Cx5 : PySem.W.findIn K (.ref (He.ga K "NotStill")) "__class__" = some (some (.builtin "object.__class__")) := of_decide_eq_true (ex_at c.more (i := 93) (b := decide (PySem.W.findIn K (.ref (He.ga K "NotStill")) "__class__" = some (some (.builtin "object.__class__")))) rfl)
  rw [e_Cx5] at ha_Cx5
  have hn_Cx5 : PySem.W.specialIn K (.builtin "object.__class__") "__get__" = some (some (.builtin "getset_descriptor.__get__")) := of_decide_eq_true (ex_at c.more (i := 94) (b := decide (PySem.W.specialIn K (.builtin "object.__class__") "__get__" = some (some (.builtin "getset_descriptor.__get__")))) rfl)
  have ht_Cx5 : PySem.W.takesIn K (.builtin "object.__class__") = some true := of_decide_eq_true (ex_at c.more (i := 95) (b := decide (PySem.W.takesIn K (.builtin "object.__class__") = some true)) rfl)
  have hm_Cx5 : PySem.W.mroIn K (He.ga K "NotStill") (.type "object") = some true := of_decide_eq_true (ex_at c.more (i := 96) (b := decide (PySem.W.mroIn K (He.ga K "NotStill") (.type "object") = some true)) rfl)
  rw [e_Cx5] at hm_Cx5
  have iC_Cx5 : PySem.W.findIn K (.ref (He.ga K "NotStill")) "__init__" = some (some (.ref (iniA K "NotStill"))) := of_decide_eq_true (ex_at c.more (i := 97) (b := decide (PySem.W.findIn K (.ref (He.ga K "NotStill")) "__init__" = some (some (.ref (iniA K "NotStill"))))) rfl)
  rw [e_Cx5] at iC_Cx5
  have tC_Cx5 : PySem.W.typeIn K (.ref (iniA K "NotStill")) = some (.type "function") := of_decide_eq_true (ex_at c.more (i := 98) (b := decide (PySem.W.typeIn K (.ref (iniA K "NotStill")) = some (.type "function"))) rfl)
  have nf_Cx5 : PySem.W.findIn K (.ref (He.ga K "NotStill")) "paper" = some none := of_decide_eq_true (ex_at c.more (i := 99) (b := decide (PySem.W.findIn K (.ref (He.ga K "NotStill")) "paper" = some none)) rfl)
  rw [e_Cx5] at nf_Cx5
  have su_Cx5 : PySem.W.ks_superIn K (He.ga K "NotStill") (He.ga K "NotStill") "__init__" = some (some (.builtin "ArithmeticError.__init__")) := of_decide_eq_true (ex_at c.more (i := 100) (b := decide (PySem.W.ks_superIn K (He.ga K "NotStill") (He.ga K "NotStill") "__init__" = some (some (.builtin "ArithmeticError.__init__")))) rfl)
  rw [e_Cx5] at su_Cx5
  have sA_Cx5 : PySem.W.subIn K (.ref (He.ga K "NotStill")) (.type "ArithmeticError") = some true := of_decide_eq_true (ex_at c.more (i := 101) (b := decide (PySem.W.subIn K (.ref (He.ga K "NotStill")) (.type "ArithmeticError") = some true)) rfl)
  rw [e_Cx5] at sA_Cx5
  have sf_Cx5 : PySem.W.mroIn K (He.ga K "NotStill") (.ref (He.ga K "NotStill")) = some true := of_decide_eq_true (ex_at c.more (i := 102) (b := decide (PySem.W.mroIn K (He.ga K "NotStill") (.ref (He.ga K "NotStill")) = some true)) rfl)
  rw [e_Cx5] at sf_Cx5
  have th_Cx5 : PySem.W.nsIn K cStatics "thirdparty.any" = some none := of_decide_eq_true (ex_at c.more (i := 103) (b := decide (PySem.W.nsIn K cStatics "thirdparty.any" = some none)) rfl)
  have ms_Cx5 : PySem.W.nsIn K mainGlobals "super" = some none := of_decide_eq_true (ex_at c.more (i := 104) (b := decide (PySem.W.nsIn K mainGlobals "super" = some none)) rfl)
  obtain ⟨cc_Cx5, dV_Cx5, ih_Cx5⟩ := errD_ok (d := ed_Cx5) hfile (ini_at c.ini (i := 2) rfl) (ex_at c.more (i := 105) (b := ed_Cx5.ok K) rfl)
  have EC_Cx5 : PySem.ErrX.ErrC K mg "NotStill" Cx5 := ⟨PySem.W.mg_of X G aC_Cx5, ei_Cx5, eo_Cx5, sa_Cx5, ga_Cx5, gg_Cx5, kC_Cx5, ex_Cx5, ty_Cx5, hd_Cx5⟩
  have cl_Cx5 := ih_Cx5.cell
  rw [show He.ga K ed_Cx5.x = Cx5 from e_Cx5] at cl_Cx5
  have IC_Cx5 : PySem.ErrX.IniC l.prog K mg Cx5 (iniA K "NotStill") cc_Cx5 "NotStill.__init__" "paper" s_NotStill___init__ dV_Cx5 := ⟨iC_Cx5, tC_Cx5, ih_Cx5.fn, cl_Cx5, nf_Cx5, su_Cx5, sA_Cx5, sf_Cx5, th_Cx5, PySem.W.mg_none_of X G ms_Cx5, htop⟩
  have XC_Cx5 : ExcC K Cx5 := ⟨ga_Cx5, gg_Cx5, ex_Cx5, hd_Cx5, ha_Cx5, hn_Cx5, ht_Cx5, hm_Cx5⟩
  have aC_Cx6 : PySem.W.nsIn K mainGlobals "TooSlow" = some (some (.ref Cx6)) := by
    rw [← e_Cx6]
    exact He.eqO_ok (c.t.d.fact 21 (f := .glo "TooSlow") rfl)
  have ei_Cx6 : PySem.W.excInitIn K (He.ga K "TooSlow") PySem.ErrX.bmA "ArithmeticError.__new__" = true := of_decide_eq_true (ex_at c.more (i := 106) (b := decide (PySem.W.excInitIn K (He.ga K "TooSlow") PySem.ErrX.bmA "ArithmeticError.__new__" = true)) rfl)
  rw [e_Cx6] at ei_Cx6
  have eo_Cx6 : PySem.W.excOver K (He.ga K "TooSlow") PySem.ErrX.bmA = true := of_decide_eq_true (ex_at c.more (i := 107) (b := decide (PySem.W.excOver K (He.ga K "TooSlow") PySem.ErrX.bmA = true)) rfl)
  rw [e_Cx6] at eo_Cx6
  have sa_Cx6 : PySem.W.findIn K (.ref (He.ga K "TooSlow")) "__setattr__" = some (some (.builtin "object.__setattr__")) := of_decide_eq_true (ex_at c.more (i := 108) (b := decide (PySem.W.findIn K (.ref (He.ga K "TooSlow")) "__setattr__" = some (some (.builtin "object.__setattr__")))) rfl)
  rw [e_Cx6] at sa_Cx6
  have ga_Cx6 : PySem.W.findIn K (.ref (He.ga K "TooSlow")) "__getattribute__" = some (some (.builtin "BaseException.__getattribute__")) := of_decide_eq_true (ex_at c.more (i := 109) (b := decide (PySem.W.findIn K (.ref (He.ga K "TooSlow")) "__getattribute__" = some (some (.builtin "BaseException.__getattribute__")))) rfl)
  rw [e_Cx6] at ga_Cx6
  have gg_Cx6 : PySem.W.findIn K (.ref (He.ga K "TooSlow")) "__getattr__" = some none := of_decide_eq_true (ex_at c.more (i := 110) (b := decide (PySem.W.findIn K (.ref (He.ga K "TooSlow")) "__getattr__" = some none)) rfl)
  rw [e_Cx6] at gg_Cx6
  have kC_Cx6 : PySem.W.keepIn K (.ref (He.ga K "TooSlow")) = true := of_decide_eq_true (ex_at c.more (i := 111) (b := decide (PySem.W.keepIn K (.ref (He.ga K "TooSlow")) = true)) rfl)
  rw [e_Cx6] at kC_Cx6
  have ex_Cx6 : PySem.W.subIn K (.ref (He.ga K "TooSlow")) (.type "BaseException") = some true := of_decide_eq_true (ex_at c.more (i := 112) (b := decide (PySem.W.subIn K (.ref (He.ga K "TooSlow")) (.type "BaseException") = some true)) rfl)
  rw [e_Cx6] at ex_Cx6
  have ty_Cx6 : PySem.W.typeIn K (.ref (He.ga K "TooSlow")) = some (.type "type") := of_decide_eq_true (ex_at c.more (i := 113) (b := decide (PySem.W.typeIn K (.ref (He.ga K "TooSlow")) = some (.type "type"))) rfl)
  rw [e_Cx6] at ty_Cx6
  have hd_Cx6 : PySem.W.hasDictIn K (He.ga K "TooSlow") = true := of_decide_eq_true (ex_at c.more (i := 114) (b := decide (PySem.W.hasDictIn K (He.ga K "TooSlow") = true)) rfl)
  rw [e_Cx6] at hd_Cx6
  have ha_Cx6 : PySem.W.findIn K (.ref (He.ga K "TooSlow")) "__class__" = some (some (.builtin "object.__class__")) := of_decide_eq_true (ex_at c.more (i := 115) (b := decide (PySem.W.findIn K (.ref (He.ga K "TooSlow")) "__class__" = some (some (.builtin "object.__class__")))) rfl)
  rw [e_Cx6] at ha_Cx6
  have hn_Cx6 : PySem.W.specialIn K (.builtin "object.__class__") "__get__" = some (some (.builtin "getset_descriptor.__get__")) := of_decide_eq_true (ex_at c.more (i := 116) (b := decide (PySem.W.specialIn K (.builtin "object.__class__") "__get__" = some (some (.builtin "getset_descriptor.__get__")))) rfl)
  have ht_Cx6 : PySem.W.takesIn K (.builtin "object.__class__") = some true := of_decide_eq_true (ex_at c.more (i := 117) (b := decide (PySem.W.takesIn K (.builtin "object.__class__") = some true)) rfl)
  have hm_Cx6 : PySem.W.mroIn K (He.ga K "TooSlow") (.type "object") = some true := of_decide_eq_true (ex_at c.more (i := 118) (b := decide (PySem.W.mroIn K (He.ga K "TooSlow") (.type "object") = some true)) rfl)
  rw [e_Cx6] at hm_Cx6
  have iC_Cx6 : PySem.W.findIn K (.ref (He.ga K "TooSlow")) "__init__" = some (some (.ref (iniA K "TooSlow"))) := of_decide_eq_true (ex_at c.more (i := 119) (b := decide (PySem.W.findIn K (.ref (He.ga K "TooSlow")) "__init__" = some (some (.ref (iniA K "TooSlow"))))) rfl)
  rw [e_Cx6] at iC_Cx6
  have tC_Cx6 : PySem.W.typeIn K (.ref (iniA K "TooSlow")) = some (.type "function") := of_decide_eq_true (ex_at c.more (i := 120) (b := decide (PySem.W.typeIn K (.ref (iniA K "TooSlow")) = some (.type "function"))) rfl)
  have nf_Cx6 : PySem.W.findIn K (.ref (He.ga K "TooSlow")) "many" = some none := of_decide_eq_true (ex_at c.more (i := 121) (b := decide (PySem.W.findIn K (.ref (He.ga K "TooSlow")) "many" = some none)) rfl)
  rw [e_Cx6] at nf_Cx6
  have su_Cx6 : PySem.W.ks_superIn K (He.ga K "TooSlow") (He.ga K "TooSlow") "__init__" = some (some (.builtin "ArithmeticError.__init__")) := of_decide_eq_true (ex_at c.more (i := 122) (b := decide (PySem.W.ks_superIn K (He.ga K "TooSlow") (He.ga K "TooSlow") "__init__" = some (some (.builtin "ArithmeticError.__init__")))) rfl)
  rw [e_Cx6] at su_Cx6
  have sA_Cx6 : PySem.W.subIn K (.ref (He.ga K "TooSlow")) (.type "ArithmeticError") = some true := of_decide_eq_true (ex_at c.more (i := 123) (b := decide (PySem.W.subIn K (.ref (He.ga K "TooSlow")) (.type "ArithmeticError") = some true)) rfl)
  rw [e_Cx6] at sA_Cx6
  have sf_Cx6 : PySem.W.mroIn K (He.ga K "TooSlow") (.ref (He.ga K "TooSlow")) = some true := of_decide_eq_true (ex_at c.more (i := 124) (b := decide (PySem.W.mroIn K (He.ga K "TooSlow") (.ref (He.ga K "TooSlow")) = some true)) rfl)
  rw [e_Cx6] at sf_Cx6
  have th_Cx6 : PySem.W.nsIn K cStatics "thirdparty.any" = some none := of_decide_eq_true (ex_at c.more (i := 125) (b := decide (PySem.W.nsIn K cStatics "thirdparty.any" = some none)) rfl)
  have ms_Cx6 : PySem.W.nsIn K mainGlobals "super" = some none := of_decide_eq_true (ex_at c.more (i := 126) (b := decide (PySem.W.nsIn K mainGlobals "super" = some none)) rfl)
  obtain ⟨cc_Cx6, dV_Cx6, ih_Cx6⟩ := errD_ok (d := ed_Cx6) hfile (ini_at c.ini (i := 3) rfl) (ex_at c.more (i := 127) (b := ed_Cx6.ok K) rfl)
  have EC_Cx6 : PySem.ErrX.ErrC K mg "TooSlow" Cx6 := ⟨PySem.W.mg_of X G aC_Cx6, ei_Cx6, eo_Cx6, sa_Cx6, ga_Cx6, gg_Cx6, kC_Cx6, ex_Cx6, ty_Cx6, hd_Cx6⟩
  have cl_Cx6 := ih_Cx6.cell
  rw [show He.ga K ed_Cx6.x = Cx6 from e_Cx6] at cl_Cx6
  have IC_Cx6 : PySem.ErrX.IniC l.prog K mg Cx6 (iniA K "TooSlow") cc_Cx6 "TooSlow.__init__" "many" s_TooSlow___init__ dV_Cx6 := ⟨iC_Cx6, tC_Cx6, ih_Cx6.fn, cl_Cx6, nf_Cx6, su_Cx6, sA_Cx6, sf_Cx6, th_Cx6, PySem.W.mg_none_of X G ms_Cx6, htop⟩
  have XC_Cx6 : ExcC K Cx6 := ⟨ga_Cx6, gg_Cx6, ex_Cx6, hd_Cx6, ha_Cx6, hn_Cx6, ht_Cx6, hm_Cx6⟩
  have aC_Cx7 : PySem.W.nsIn K mainGlobals "BadNet" = some (some (.ref Cx7)) := by
    rw [← e_Cx7]
    exact He.eqO_ok (c.t.d.fact 22 (f := .glo "BadNet") rfl)
  have ei_Cx7 : PySem.W.excInitIn K (He.ga K "BadNet") PySem.ErrX.bmA "ArithmeticError.__new__" = true := of_decide_eq_true (ex_at c.more (i := 128) (b := decide (PySem.W.excInitIn K (He.ga K "BadNet") PySem.ErrX.bmA "ArithmeticError.__new__" = true)) rfl)
  rw [e_Cx7] at ei_Cx7
  have eo_Cx7 : PySem.W.excOver K (He.ga K "BadNet") PySem.ErrX.bmA = true := of_decide_eq_true (ex_at c.more (i := 129) (b := decide (PySem.W.excOver K (He.ga K "BadNet") PySem.ErrX.bmA = true)) rfl)
  rw [e_Cx7] at eo_Cx7
  have sa_Cx7 : PySem.W.findIn K (.ref (He.ga K "BadNet")) "__setattr__" = some (some (.builtin "object.__setattr__")) := of_decide_eq_true (ex_at c.more (i := 130) (b := decide (PySem.W.findIn K (.ref (He.ga K "BadNet")) "__setattr__" = some (some (.builtin "object.__setattr__")))) rfl)
  rw [e_Cx7] at sa_Cx7
  have ga_Cx7 : PySem.W.findIn K (.ref (He.ga K "BadNet")) "__getattribute__" = some (some (.builtin "BaseException.__getattribute__")) := of_decide_eq_true (ex_at c.more (i := 131) (b := decide (PySem.W.findIn K (.ref (He.ga K "BadNet")) "__getattribute__" = some (some (.builtin "BaseException.__getattribute__")))) rfl)
  rw [e_Cx7] at ga_Cx7
  have gg_Cx7 : PySem.W.findIn K (.ref (He.ga K "BadNet")) "__getattr__" = some none := of_decide_eq_true (ex_at c.more (i := 132) (b := decide (PySem.W.findIn K (.ref (He.ga K "BadNet")) "__getattr__" = some none)) rfl)
  rw [e_Cx7] at gg_Cx7
  have kC_Cx7 : PySem.W.keepIn K (.ref (He.ga K "BadNet")) = true := of_decide_eq_true (ex_at c.more (i := 133) (b := decide (PySem.W.keepIn K (.ref (He.ga K "BadNet")) = true)) rfl)
  rw [e_Cx7] at kC_Cx7
  have ex_Cx7 : PySem.W.subIn K (.ref (He.ga K "BadNet")) (.type "BaseException") = some true := of_decide_eq_true (ex_at c.more (i := 134) (b := decide (PySem.W.subIn K (.ref (He.ga K "BadNet")) (.type "BaseException") = some true)) rfl)
  rw [e_Cx7] at ex_Cx7
  have ty_Cx7 : PySem.W.typeIn K (.ref (He.ga K "BadNet")) = some (.type "type") := of_decide_eq_true (ex_at c.more (i := 135) (b := decide (PySem.W.typeIn K (.ref (He.ga K "BadNet")) = some (.type "type"))) rfl)
  rw [e_Cx7] at ty_Cx7
  have hd_Cx7 : PySem.W.hasDictIn K (He.ga K "BadNet") = true := of_decide_eq_true (ex_at c.more (i := 136) (b := decide (PySem.W.hasDictIn K (He.ga K "BadNet") = true)) rfl)
  rw [e_Cx7] at hd_Cx7
  have ha_Cx7 : PySem.W.findIn K (.ref (He.ga K "BadNet")) "__class__" = some (some (.builtin "object.__class__")) := of_decide_eq_true (ex_at c.more (i := 137) (b := decide (PySem.W.findIn K (.ref (He.ga K "BadNet")) "__class__" = some (some (.builtin "object.__class__")))) rfl)
  rw [e_Cx7] at ha_Cx7
  have hn_Cx7 : PySem.W.specialIn K (.builtin "object.__class__") "__get__" = some (some (.builtin "getset_descriptor.__get__")) := of_decide_eq_true (ex_at c.more (i := 138) (b := decide (PySem.W.specialIn K (.builtin "object.__class__") "__get__" = some (some (.builtin "getset_descriptor.__get__")))) rfl)
  have ht_Cx7 : PySem.W.takesIn K (.builtin "object.__class__") = some true := of_decide_eq_true (ex_at c.more (i := 139) (b := decide (PySem.W.takesIn K (.builtin "object.__class__") = some true)) rfl)
  have hm_Cx7 : PySem.W.mroIn K (He.ga K "BadNet") (.type "object") = some true := of_decide_eq_true (ex_at c.more (i := 140) (b := decide (PySem.W.mroIn K (He.ga K "BadNet") (.type "object") = some true)) rfl)
  rw [e_Cx7] at hm_Cx7
  have iC_Cx7 : PySem.W.findIn K (.ref (He.ga K "BadNet")) "__init__" = some (some (.ref (iniA K "BadNet"))) := of_decide_eq_true (ex_at c.more (i := 141) (b := decide (PySem.W.findIn K (.ref (He.ga K "BadNet")) "__init__" = some (some (.ref (iniA K "BadNet"))))) rfl)
  rw [e_Cx7] at iC_Cx7
  have tC_Cx7 : PySem.W.typeIn K (.ref (iniA K "BadNet")) = some (.type "function") := of_decide_eq_true (ex_at c.more (i := 142) (b := decide (PySem.W.typeIn K (.ref (iniA K "BadNet")) = some (.type "function"))) rfl)
  have nf_Cx7 : PySem.W.findIn K (.ref (He.ga K "BadNet")) "part" = some none := of_decide_eq_true (ex_at c.more (i := 143) (b := decide (PySem.W.findIn K (.ref (He.ga K "BadNet")) "part" = some none)) rfl)
  rw [e_Cx7] at nf_Cx7
  have su_Cx7 : PySem.W.ks_superIn K (He.ga K "BadNet") (He.ga K "BadNet") "__init__" = some (some (.builtin "ArithmeticError.__init__")) := of_decide_eq_true (ex_at c.more (i := 144) (b := decide (PySem.W.ks_superIn K (He.ga K "BadNet") (He.ga K "BadNet") "__init__" = some (some (.builtin "ArithmeticError.__init__")))) rfl)
  rw [e_Cx7] at su_Cx7
  have sA_Cx7 : PySem.W.subIn K (.ref (He.ga K "BadNet")) (.type "ArithmeticError") = some true := of_decide_eq_true (ex_at c.more (i := 145) (b := decide (PySem.W.subIn K (.ref (He.ga K "BadNet")) (.type "ArithmeticError") = some true)) rfl)
  rw [e_Cx7] at sA_Cx7
  have sf_Cx7 : PySem.W.mroIn K (He.ga K "BadNet") (.ref (He.ga K "BadNet")) = some true := of_decide_eq_true (ex_at c.more (i := 146) (b := decide (PySem.W.mroIn K (He.ga K "BadNet") (.ref (He.ga K "BadNet")) = some true)) rfl)
  rw [e_Cx7] at sf_Cx7
  have th_Cx7 : PySem.W.nsIn K cStatics "thirdparty.any" = some none := of_decide_eq_true (ex_at c.more (i := 147) (b := decide (PySem.W.nsIn K cStatics "thirdparty.any" = some none)) rfl)
  have ms_Cx7 : PySem.W.nsIn K mainGlobals "super" = some none := of_decide_eq_true (ex_at c.more (i := 148) (b := decide (PySem.W.nsIn K mainGlobals "super" = some none)) rfl)
  obtain ⟨cc_Cx7, dV_Cx7, ih_Cx7⟩ := errD_ok (d := ed_Cx7) hfile (ini_at c.ini (i := 4) rfl) (ex_at c.more (i := 149) (b := ed_Cx7.ok K) rfl)
  have EC_Cx7 : PySem.ErrX.ErrC K mg "BadNet" Cx7 := ⟨PySem.W.mg_of X G aC_Cx7, ei_Cx7, eo_Cx7, sa_Cx7, ga_Cx7, gg_Cx7, kC_Cx7, ex_Cx7, ty_Cx7, hd_Cx7⟩
  have cl_Cx7 := ih_Cx7.cell
  rw [show He.ga K ed_Cx7.x = Cx7 from e_Cx7] at cl_Cx7
  have IC_Cx7 : PySem.ErrX.IniC l.prog K mg Cx7 (iniA K "BadNet") cc_Cx7 "BadNet.__init__" "part" s_BadNet___init__ dV_Cx7 := ⟨iC_Cx7, tC_Cx7, ih_Cx7.fn, cl_Cx7, nf_Cx7, su_Cx7, sA_Cx7, sf_Cx7, th_Cx7, PySem.W.mg_none_of X G ms_Cx7, htop⟩
  have XC_Cx7 : ExcC K Cx7 := ⟨ga_Cx7, gg_Cx7, ex_Cx7, hd_Cx7, ha_Cx7, hn_Cx7, ht_Cx7, hm_Cx7⟩
  have nA : PySem.W.findIn K (.ref (He.ga K "BadNet")) "at" = some none := of_decide_eq_true (ex_at c.more (i := 150) (b := decide (PySem.W.findIn K (.ref (He.ga K "BadNet")) "at" = some none)) rfl)
  rw [e_Cx7] at nA
  have aC_Cx8 : PySem.W.nsIn K mainGlobals "BadState" = some (some (.ref Cx8)) := by
    rw [← e_Cx8]
    exact He.eqO_ok (c.t.d.fact 23 (f := .glo "BadState") rfl)
  have ga_Cx8 : PySem.W.findIn K (.ref (He.ga K "BadState")) "__getattribute__" = some (some (.builtin "BaseException.__getattribute__")) := of_decide_eq_true (ex_at c.more (i := 151) (b := decide (PySem.W.findIn K (.ref (He.ga K "BadState")) "__getattribute__" = some (some (.builtin "BaseException.__getattribute__")))) rfl)
  rw [e_Cx8] at ga_Cx8
  have gg_Cx8 : PySem.W.findIn K (.ref (He.ga K "BadState")) "__getattr__" = some none := of_decide_eq_true (ex_at c.more (i := 152) (b := decide (PySem.W.findIn K (.ref (He.ga K "BadState")) "__getattr__" = some none)) rfl)
  rw [e_Cx8] at gg_Cx8
  have ex_Cx8 : PySem.W.subIn K (.ref (He.ga K "BadState")) (.type "BaseException") = some true := of_decide_eq_true (ex_at c.more (i := 153) (b := decide (PySem.W.subIn K (.ref (He.ga K "BadState")) (.type "BaseException") = some true)) rfl)
  rw [e_Cx8] at ex_Cx8
  have hd_Cx8 : PySem.W.hasDictIn K (He.ga K "BadState") = true := of_decide_eq_true (ex_at c.more (i := 154) (b := decide (PySem.W.hasDictIn K (He.ga K "BadState") = true)) rfl)
  rw [e_Cx8] at hd_Cx8
  have ha_Cx8 : PySem.W.findIn K (.ref (He.ga K "BadState")) "__class__" = some (some (.builtin "object.__class__")) := of_decide_eq_true (ex_at c.more (i := 155) (b := decide (PySem.W.findIn K (.ref (He.ga K "BadState")) "__class__" = some (some (.builtin "object.__class__")))) rfl)
  rw [e_Cx8] at ha_Cx8
  have hn_Cx8 : PySem.W.specialIn K (.builtin "object.__class__") "__get__" = some (some (.builtin "getset_descriptor.__get__")) := of_decide_eq_true (ex_at c.more (i := 156) (b := decide (PySem.W.specialIn K (.builtin "object.__class__") "__get__" = some (some (.builtin "getset_descriptor.__get__")))) rfl)
  have ht_Cx8 : PySem.W.takesIn K (.builtin "object.__class__") = some true := of_decide_eq_true (ex_at c.more (i := 157) (b := decide (PySem.W.takesIn K (.builtin "object.__class__") = some true)) rfl)
  have hm_Cx8 : PySem.W.mroIn K (He.ga K "BadState") (.type "object") = some true := of_decide_eq_true (ex_at c.more (i := 158) (b := decide (PySem.W.mroIn K (He.ga K "BadState") (.type "object") = some true)) rfl)
  rw [e_Cx8] at hm_Cx8
  have xi_Cx8 : PySem.W.excIn K (He.ga K "BadState") PySem.ErrX.bmA "ArithmeticError.__new__" = true := of_decide_eq_true (ex_at c.more (i := 159) (b := decide (PySem.W.excIn K (He.ga K "BadState") PySem.ErrX.bmA "ArithmeticError.__new__" = true)) rfl)
  rw [e_Cx8] at xi_Cx8
  have kp_Cx8 : PySem.W.keepIn K (.ref (He.ga K "BadState")) = true := of_decide_eq_true (ex_at c.more (i := 160) (b := decide (PySem.W.keepIn K (.ref (He.ga K "BadState")) = true)) rfl)
  rw [e_Cx8] at kp_Cx8
  have aC_Cx9 : PySem.W.nsIn K mainGlobals "NoTurn" = some (some (.ref Cx9)) := by
    rw [← e_Cx9]
    exact He.eqO_ok (c.t.d.fact 24 (f := .glo "NoTurn") rfl)
  have ei_Cx9 : PySem.W.excInitIn K (He.ga K "NoTurn") PySem.ErrX.bmA "ArithmeticError.__new__" = true := of_decide_eq_true (ex_at c.more (i := 161) (b := decide (PySem.W.excInitIn K (He.ga K "NoTurn") PySem.ErrX.bmA "ArithmeticError.__new__" = true)) rfl)
  rw [e_Cx9] at ei_Cx9
  have eo_Cx9 : PySem.W.excOver K (He.ga K "NoTurn") PySem.ErrX.bmA = true := of_decide_eq_true (ex_at c.more (i := 162) (b := decide (PySem.W.excOver K (He.ga K "NoTurn") PySem.ErrX.bmA = true)) rfl)
  rw [e_Cx9] at eo_Cx9
  have sa_Cx9 : PySem.W.findIn K (.ref (He.ga K "NoTurn")) "__setattr__" = some (some (.builtin "object.__setattr__")) := of_decide_eq_true (ex_at c.more (i := 163) (b := decide (PySem.W.findIn K (.ref (He.ga K "NoTurn")) "__setattr__" = some (some (.builtin "object.__setattr__")))) rfl)
  rw [e_Cx9] at sa_Cx9
  have ga_Cx9 : PySem.W.findIn K (.ref (He.ga K "NoTurn")) "__getattribute__" = some (some (.builtin "BaseException.__getattribute__")) := of_decide_eq_true (ex_at c.more (i := 164) (b := decide (PySem.W.findIn K (.ref (He.ga K "NoTurn")) "__getattribute__" = some (some (.builtin "BaseException.__getattribute__")))) rfl)
  rw [e_Cx9] at ga_Cx9
  have gg_Cx9 : PySem.W.findIn K (.ref (He.ga K "NoTurn")) "__getattr__" = some none := of_decide_eq_true (ex_at c.more (i := 165) (b := decide (PySem.W.findIn K (.ref (He.ga K "NoTurn")) "__getattr__" = some none)) rfl)
  rw [e_Cx9] at gg_Cx9
  have kC_Cx9 : PySem.W.keepIn K (.ref (He.ga K "NoTurn")) = true := of_decide_eq_true (ex_at c.more (i := 166) (b := decide (PySem.W.keepIn K (.ref (He.ga K "NoTurn")) = true)) rfl)
  rw [e_Cx9] at kC_Cx9
  have ex_Cx9 : PySem.W.subIn K (.ref (He.ga K "NoTurn")) (.type "BaseException") = some true := of_decide_eq_true (ex_at c.more (i := 167) (b := decide (PySem.W.subIn K (.ref (He.ga K "NoTurn")) (.type "BaseException") = some true)) rfl)
  rw [e_Cx9] at ex_Cx9
  have ty_Cx9 : PySem.W.typeIn K (.ref (He.ga K "NoTurn")) = some (.type "type") := of_decide_eq_true (ex_at c.more (i := 168) (b := decide (PySem.W.typeIn K (.ref (He.ga K "NoTurn")) = some (.type "type"))) rfl)
  rw [e_Cx9] at ty_Cx9
  have hd_Cx9 : PySem.W.hasDictIn K (He.ga K "NoTurn") = true := of_decide_eq_true (ex_at c.more (i := 169) (b := decide (PySem.W.hasDictIn K (He.ga K "NoTurn") = true)) rfl)
  rw [e_Cx9] at hd_Cx9
  have ha_Cx9 : PySem.W.findIn K (.ref (He.ga K "NoTurn")) "__class__" = some (some (.builtin "object.__class__")) := of_decide_eq_true (ex_at c.more (i := 170) (b := decide (PySem.W.findIn K (.ref (He.ga K "NoTurn")) "__class__" = some (some (.builtin "object.__class__")))) rfl)
  rw [e_Cx9] at ha_Cx9
  have hn_Cx9 : PySem.W.specialIn K (.builtin "object.__class__") "__get__" = some (some (.builtin "getset_descriptor.__get__")) := of_decide_eq_true (ex_at c.more (i := 171) (b := decide (PySem.W.specialIn K (.builtin "object.__class__") "__get__" = some (some (.builtin "getset_descriptor.__get__")))) rfl)
  have ht_Cx9 : PySem.W.takesIn K (.builtin "object.__class__") = some true := of_decide_eq_true (ex_at c.more (i := 172) (b := decide (PySem.W.takesIn K (.builtin "object.__class__") = some true)) rfl)
  have hm_Cx9 : PySem.W.mroIn K (He.ga K "NoTurn") (.type "object") = some true := of_decide_eq_true (ex_at c.more (i := 173) (b := decide (PySem.W.mroIn K (He.ga K "NoTurn") (.type "object") = some true)) rfl)
  rw [e_Cx9] at hm_Cx9
  have iC_Cx9 : PySem.W.findIn K (.ref (He.ga K "NoTurn")) "__init__" = some (some (.ref (iniA K "NoTurn"))) := of_decide_eq_true (ex_at c.more (i := 174) (b := decide (PySem.W.findIn K (.ref (He.ga K "NoTurn")) "__init__" = some (some (.ref (iniA K "NoTurn"))))) rfl)
  rw [e_Cx9] at iC_Cx9
  have tC_Cx9 : PySem.W.typeIn K (.ref (iniA K "NoTurn")) = some (.type "function") := of_decide_eq_true (ex_at c.more (i := 175) (b := decide (PySem.W.typeIn K (.ref (iniA K "NoTurn")) = some (.type "function"))) rfl)
  have nf_Cx9 : PySem.W.findIn K (.ref (He.ga K "NoTurn")) "many" = some none := of_decide_eq_true (ex_at c.more (i := 176) (b := decide (PySem.W.findIn K (.ref (He.ga K "NoTurn")) "many" = some none)) rfl)
  rw [e_Cx9] at nf_Cx9
  have su_Cx9 : PySem.W.ks_superIn K (He.ga K "NoTurn") (He.ga K "NoTurn") "__init__" = some (some (.builtin "ArithmeticError.__init__")) := of_decide_eq_true (ex_at c.more (i := 177) (b := decide (PySem.W.ks_superIn K (He.ga K "NoTurn") (He.ga K "NoTurn") "__init__" = some (some (.builtin "ArithmeticError.__init__")))) rfl)
  rw [e_Cx9] at su_Cx9
  have sA_Cx9 : PySem.W.subIn K (.ref (He.ga K "NoTurn")) (.type "ArithmeticError") = some true := of_decide_eq_true (ex_at c.more (i := 178) (b := decide (PySem.W.subIn K (.ref (He.ga K "NoTurn")) (.type "ArithmeticError") = some true)) rfl)
  rw [e_Cx9] at sA_Cx9
  have sf_Cx9 : PySem.W.mroIn K (He.ga K "NoTurn") (.ref (He.ga K "NoTurn")) = some true := of_decide_eq_true (ex_at c.more (i := 179) (b := decide (PySem.W.mroIn K (He.ga K "NoTurn") (.ref (He.ga K "NoTurn")) = some true)) rfl)
  rw [e_Cx9] at sf_Cx9
  have th_Cx9 : PySem.W.nsIn K cStatics "thirdparty.any" = some none := of_decide_eq_true (ex_at c.more (i := 180) (b := decide (PySem.W.nsIn K cStatics "thirdparty.any" = some none)) rfl)
  have ms_Cx9 : PySem.W.nsIn K mainGlobals "super" = some none := of_decide_eq_true (ex_at c.more (i := 181) (b := decide (PySem.W.nsIn K mainGlobals "super" = some none)) rfl)
  obtain ⟨cc_Cx9, dV_Cx9, ih_Cx9⟩ := errD_ok (d := ed_Cx9) hfile (ini_at c.ini (i := 5) rfl) (ex_at c.more (i := 182) (b := ed_Cx9.ok K) rfl)
  have EC_Cx9 : PySem.ErrX.ErrC K mg "NoTurn" Cx9 := ⟨PySem.W.mg_of X G aC_Cx9, ei_Cx9, eo_Cx9, sa_Cx9, ga_Cx9, gg_Cx9, kC_Cx9, ex_Cx9, ty_Cx9, hd_Cx9⟩
  have cl_Cx9 := ih_Cx9.cell
  rw [show He.ga K ed_Cx9.x = Cx9 from e_Cx9] at cl_Cx9
  have IC_Cx9 : PySem.ErrX.IniC l.prog K mg Cx9 (iniA K "NoTurn") cc_Cx9 "NoTurn.__init__" "many" s_NoTurn___init__ dV_Cx9 := ⟨iC_Cx9, tC_Cx9, ih_Cx9.fn, cl_Cx9, nf_Cx9, su_Cx9, sA_Cx9, sf_Cx9, th_Cx9, PySem.W.mg_none_of X G ms_Cx9, htop⟩
  have XC_Cx9 : ExcC K Cx9 := ⟨ga_Cx9, gg_Cx9, ex_Cx9, hd_Cx9, ha_Cx9, hn_Cx9, ht_Cx9, hm_Cx9⟩
  have aC_Cx10 : PySem.W.nsIn K mainGlobals "NoWords" = some (some (.ref Cx10)) := by
    rw [← e_Cx10]
    exact He.eqO_ok (c.t.d.fact 25 (f := .glo "NoWords") rfl)
  have ga_Cx10 : PySem.W.findIn K (.ref (He.ga K "NoWords")) "__getattribute__" = some (some (.builtin "BaseException.__getattribute__")) := of_decide_eq_true (ex_at c.more (i := 183) (b := decide (PySem.W.findIn K (.ref (He.ga K "NoWords")) "__getattribute__" = some (some (.builtin "BaseException.__getattribute__")))) rfl)
  rw [e_Cx10] at ga_Cx10
  have gg_Cx10 : PySem.W.findIn K (.ref (He.ga K "NoWords")) "__getattr__" = some none := of_decide_eq_true (ex_at c.more (i := 184) (b := decide (PySem.W.findIn K (.ref (He.ga K "NoWords")) "__getattr__" = some none)) rfl)
  rw [e_Cx10] at gg_Cx10
  have ex_Cx10 : PySem.W.subIn K (.ref (He.ga K "NoWords")) (.type "BaseException") = some true := of_decide_eq_true (ex_at c.more (i := 185) (b := decide (PySem.W.subIn K (.ref (He.ga K "NoWords")) (.type "BaseException") = some true)) rfl)
  rw [e_Cx10] at ex_Cx10
  have hd_Cx10 : PySem.W.hasDictIn K (He.ga K "NoWords") = true := of_decide_eq_true (ex_at c.more (i := 186) (b := decide (PySem.W.hasDictIn K (He.ga K "NoWords") = true)) rfl)
  rw [e_Cx10] at hd_Cx10
  have ha_Cx10 : PySem.W.findIn K (.ref (He.ga K "NoWords")) "__class__" = some (some (.builtin "object.__class__")) := of_decide_eq_true (ex_at c.more (i := 187) (b := decide (PySem.W.findIn K (.ref (He.ga K "NoWords")) "__class__" = some (some (.builtin "object.__class__")))) rfl)
  rw [e_Cx10] at ha_Cx10
  have hn_Cx10 : PySem.W.specialIn K (.builtin "object.__class__") "__get__" = some (some (.builtin "getset_descriptor.__get__")) := of_decide_eq_true (ex_at c.more (i := 188) (b := decide (PySem.W.specialIn K (.builtin "object.__class__") "__get__" = some (some (.builtin "getset_descriptor.__get__")))) rfl)
  have ht_Cx10 : PySem.W.takesIn K (.builtin "object.__class__") = some true := of_decide_eq_true (ex_at c.more (i := 189) (b := decide (PySem.W.takesIn K (.builtin "object.__class__") = some true)) rfl)
  have hm_Cx10 : PySem.W.mroIn K (He.ga K "NoWords") (.type "object") = some true := of_decide_eq_true (ex_at c.more (i := 190) (b := decide (PySem.W.mroIn K (He.ga K "NoWords") (.type "object") = some true)) rfl)
  rw [e_Cx10] at hm_Cx10
  have xi_Cx10 : PySem.W.excIn K (He.ga K "NoWords") PySem.ErrX.bmA "ArithmeticError.__new__" = true := of_decide_eq_true (ex_at c.more (i := 191) (b := decide (PySem.W.excIn K (He.ga K "NoWords") PySem.ErrX.bmA "ArithmeticError.__new__" = true)) rfl)
  rw [e_Cx10] at xi_Cx10
  have kp_Cx10 : PySem.W.keepIn K (.ref (He.ga K "NoWords")) = true := of_decide_eq_true (ex_at c.more (i := 192) (b := decide (PySem.W.keepIn K (.ref (He.ga K "NoWords")) = true)) rfl)
  rw [e_Cx10] at kp_Cx10
  have aC_Cx11 : PySem.W.nsIn K mainGlobals "TooMany" = some (some (.ref Cx11)) := by
    rw [← e_Cx11]
    exact He.eqO_ok (c.t.d.fact 26 (f := .glo "TooMany") rfl)
  have ei_Cx11 : PySem.W.excInitIn K (He.ga K "TooMany") PySem.ErrX.bmA "ArithmeticError.__new__" = true := of_decide_eq_true (ex_at c.more (i := 193) (b := decide (PySem.W.excInitIn K (He.ga K "TooMany") PySem.ErrX.bmA "ArithmeticError.__new__" = true)) rfl)
  rw [e_Cx11] at ei_Cx11
  have eo_Cx11 : PySem.W.excOver K (He.ga K "TooMany") PySem.ErrX.bmA = true := of_decide_eq_true (ex_at c.more (i := 194) (b := decide (PySem.W.excOver K (He.ga K "TooMany") PySem.ErrX.bmA = true)) rfl)
  rw [e_Cx11] at eo_Cx11
  have sa_Cx11 : PySem.W.findIn K (.ref (He.ga K "TooMany")) "__setattr__" = some (some (.builtin "object.__setattr__")) := of_decide_eq_true (ex_at c.more (i := 195) (b := decide (PySem.W.findIn K (.ref (He.ga K "TooMany")) "__setattr__" = some (some (.builtin "object.__setattr__")))) rfl)
  rw [e_Cx11] at sa_Cx11
  have ga_Cx11 : PySem.W.findIn K (.ref (He.ga K "TooMany")) "__getattribute__" = some (some (.builtin "BaseException.__getattribute__")) := of_decide_eq_true (ex_at c.more (i := 196) (b := decide (PySem.W.findIn K (.ref (He.ga K "TooMany")) "__getattribute__" = some (some (.builtin "BaseException.__getattribute__")))) rfl)
  rw [e_Cx11] at ga_Cx11
  have gg_Cx11 : PySem.W.findIn K (.ref (He.ga K "TooMany")) "__getattr__" = some none := of_decide_eq_true (ex_at c.more (i := 197) (b := decide (PySem.W.findIn K (.ref (He.ga K "TooMany")) "__getattr__" = some none)) rfl)
  rw [e_Cx11] at gg_Cx11
  have kC_Cx11 : PySem.W.keepIn K (.ref (He.ga K "TooMany")) = true := of_decide_eq_true (ex_at c.more (i := 198) (b := decide (PySem.W.keepIn K (.ref (He.ga K "TooMany")) = true)) rfl)
  rw [e_Cx11] at kC_Cx11
  have ex_Cx11 : PySem.W.subIn K (.ref (He.ga K "TooMany")) (.type "BaseException") = some true := of_decide_eq_true (ex_at c.more (i := 199) (b := decide (PySem.W.subIn K (.ref (He.ga K "TooMany")) (.type "BaseException") = some true)) rfl)
  rw [e_Cx11] at ex_Cx11
  have ty_Cx11 : PySem.W.typeIn K (.ref (He.ga K "TooMany")) = some (.type "type") := of_decide_eq_true (ex_at c.more (i := 200) (b := decide (PySem.W.typeIn K (.ref (He.ga K "TooMany")) = some (.type "type"))) rfl)
  rw [e_Cx11] at ty_Cx11
  have hd_Cx11 : PySem.W.hasDictIn K (He.ga K "TooMany") = true := of_decide_eq_true (ex_at c.more (i := 201) (b := decide (PySem.W.hasDictIn K (He.ga K "TooMany") = true)) rfl)
  rw [e_Cx11] at hd_Cx11
  have ha_Cx11 : PySem.W.findIn K (.ref (He.ga K "TooMany")) "__class__" = some (some (.builtin "object.__class__")) := of_decide_eq_true (ex_at c.more (i := 202) (b := decide (PySem.W.findIn K (.ref (He.ga K "TooMany")) "__class__" = some (some (.builtin "object.__class__")))) rfl)
  rw [e_Cx11] at ha_Cx11
  have hn_Cx11 : PySem.W.specialIn K (.builtin "object.__class__") "__get__" = some (some (.builtin "getset_descriptor.__get__")) := of_decide_eq_true (ex_at c.more (i := 203) (b := decide (PySem.W.specialIn K (.builtin "object.__class__") "__get__" = some (some (.builtin "getset_descriptor.__get__")))) rfl)
  have ht_Cx11 : PySem.W.takesIn K (.builtin "object.__class__") = some true := of_decide_eq_true (ex_at c.more (i := 204) (b := decide (PySem.W.takesIn K (.builtin "object.__class__") = some true)) rfl)
  have hm_Cx11 : PySem.W.mroIn K (He.ga K "TooMany") (.type "object") = some true := of_decide_eq_true (ex_at c.more (i := 205) (b := decide (PySem.W.mroIn K (He.ga K "TooMany") (.type "object") = some true)) rfl)
  rw [e_Cx11] at hm_Cx11
  have iC_Cx11 : PySem.W.findIn K (.ref (He.ga K "TooMany")) "__init__" = some (some (.ref (iniA K "TooMany"))) := of_decide_eq_true (ex_at c.more (i := 206) (b := decide (PySem.W.findIn K (.ref (He.ga K "TooMany")) "__init__" = some (some (.ref (iniA K "TooMany"))))) rfl)
  rw [e_Cx11] at iC_Cx11
  have tC_Cx11 : PySem.W.typeIn K (.ref (iniA K "TooMany")) = some (.type "function") := of_decide_eq_true (ex_at c.more (i := 207) (b := decide (PySem.W.typeIn K (.ref (iniA K "TooMany")) = some (.type "function"))) rfl)
  have nf_Cx11 : PySem.W.findIn K (.ref (He.ga K "TooMany")) "many" = some none := of_decide_eq_true (ex_at c.more (i := 208) (b := decide (PySem.W.findIn K (.ref (He.ga K "TooMany")) "many" = some none)) rfl)
  rw [e_Cx11] at nf_Cx11
  have su_Cx11 : PySem.W.ks_superIn K (He.ga K "TooMany") (He.ga K "TooMany") "__init__" = some (some (.builtin "ArithmeticError.__init__")) := of_decide_eq_true (ex_at c.more (i := 209) (b := decide (PySem.W.ks_superIn K (He.ga K "TooMany") (He.ga K "TooMany") "__init__" = some (some (.builtin "ArithmeticError.__init__")))) rfl)
  rw [e_Cx11] at su_Cx11
  have sA_Cx11 : PySem.W.subIn K (.ref (He.ga K "TooMany")) (.type "ArithmeticError") = some true := of_decide_eq_true (ex_at c.more (i := 210) (b := decide (PySem.W.subIn K (.ref (He.ga K "TooMany")) (.type "ArithmeticError") = some true)) rfl)
  rw [e_Cx11] at sA_Cx11
  have sf_Cx11 : PySem.W.mroIn K (He.ga K "TooMany") (.ref (He.ga K "TooMany")) = some true := of_decide_eq_true (ex_at c.more (i := 211) (b := decide (PySem.W.mroIn K (He.ga K "TooMany") (.ref (He.ga K "TooMany")) = some true)) rfl)
  rw [e_Cx11] at sf_Cx11
  have th_Cx11 : PySem.W.nsIn K cStatics "thirdparty.any" = some none := of_decide_eq_true (ex_at c.more (i := 212) (b := decide (PySem.W.nsIn K cStatics "thirdparty.any" = some none)) rfl)
  have ms_Cx11 : PySem.W.nsIn K mainGlobals "super" = some none := of_decide_eq_true (ex_at c.more (i := 213) (b := decide (PySem.W.nsIn K mainGlobals "super" = some none)) rfl)
  obtain ⟨cc_Cx11, dV_Cx11, ih_Cx11⟩ := errD_ok (d := ed_Cx11) hfile (ini_at c.ini (i := 6) rfl) (ex_at c.more (i := 214) (b := ed_Cx11.ok K) rfl)
  have EC_Cx11 : PySem.ErrX.ErrC K mg "TooMany" Cx11 := ⟨PySem.W.mg_of X G aC_Cx11, ei_Cx11, eo_Cx11, sa_Cx11, ga_Cx11, gg_Cx11, kC_Cx11, ex_Cx11, ty_Cx11, hd_Cx11⟩
  have cl_Cx11 := ih_Cx11.cell
  rw [show He.ga K ed_Cx11.x = Cx11 from e_Cx11] at cl_Cx11
  have IC_Cx11 : PySem.ErrX.IniC l.prog K mg Cx11 (iniA K "TooMany") cc_Cx11 "TooMany.__init__" "many" s_TooMany___init__ dV_Cx11 := ⟨iC_Cx11, tC_Cx11, ih_Cx11.fn, cl_Cx11, nf_Cx11, su_Cx11, sA_Cx11, sf_Cx11, th_Cx11, PySem.W.mg_none_of X G ms_Cx11, htop⟩
  have XC_Cx11 : ExcC K Cx11 := ⟨ga_Cx11, gg_Cx11, ex_Cx11, hd_Cx11, ha_Cx11, hn_Cx11, ht_Cx11, hm_Cx11⟩
  have aC_Cx12 : PySem.W.nsIn K mainGlobals "NoState" = some (some (.ref Cx12)) := by
    rw [← e_Cx12]
    exact He.eqO_ok (c.t.d.fact 27 (f := .glo "NoState") rfl)
  have ga_Cx12 : PySem.W.findIn K (.ref (He.ga K "NoState")) "__getattribute__" = some (some (.builtin "BaseException.__getattribute__")) := of_decide_eq_true (ex_at c.more (i := 215) (b := decide (PySem.W.findIn K (.ref (He.ga K "NoState")) "__getattribute__" = some (some (.builtin "BaseException.__getattribute__")))) rfl)
  rw [e_Cx12] at ga_Cx12
  have gg_Cx12 : PySem.W.findIn K (.ref (He.ga K "NoState")) "__getattr__" = some none := of_decide_eq_true (ex_at c.more (i := 216) (b := decide (PySem.W.findIn K (.ref (He.ga K "NoState")) "__getattr__" = some none)) rfl)
  rw [e_Cx12] at gg_Cx12
  have ex_Cx12 : PySem.W.subIn K (.ref (He.ga K "NoState")) (.type "BaseException") = some true := of_decide_eq_true (ex_at c.more (i := 217) (b := decide (PySem.W.subIn K (.ref (He.ga K "NoState")) (.type "BaseException") = some true)) rfl)
  rw [e_Cx12] at ex_Cx12
  have hd_Cx12 : PySem.W.hasDictIn K (He.ga K "NoState") = true := of_decide_eq_true (ex_at c.more (i := 218) (b := decide (PySem.W.hasDictIn K (He.ga K "NoState") = true)) rfl)
  rw [e_Cx12] at hd_Cx12
  have ha_Cx12 : PySem.W.findIn K (.ref (He.ga K "NoState")) "__class__" = some (some (.builtin "object.__class__")) := of_decide_eq_true (ex_at c.more (i := 219) (b := decide (PySem.W.findIn K (.ref (He.ga K "NoState")) "__class__" = some (some (.builtin "object.__class__")))) rfl)
  rw [e_Cx12] at ha_Cx12
  have hn_Cx12 : PySem.W.specialIn K (.builtin "object.__class__") "__get__" = some (some (.builtin "getset_descriptor.__get__")) := of_decide_eq_true (ex_at c.more (i := 220) (b := decide (PySem.W.specialIn K (.builtin "object.__class__") "__get__" = some (some (.builtin "getset_descriptor.__get__")))) rfl)
  have ht_Cx12 : PySem.W.takesIn K (.builtin "object.__class__") = some true := of_decide_eq_true (ex_at c.more (i := 221) (b := decide (PySem.W.takesIn K (.builtin "object.__class__") = some true)) rfl)
  have hm_Cx12 : PySem.W.mroIn K (He.ga K "NoState") (.type "object") = some true := of_decide_eq_true (ex_at c.more (i := 222) (b := decide (PySem.W.mroIn K (He.ga K "NoState") (.type "object") = some true)) rfl)
  rw [e_Cx12] at hm_Cx12
  have xi_Cx12 : PySem.W.excIn K (He.ga K "NoState") PySem.ErrX.bmA "ArithmeticError.__new__" = true := of_decide_eq_true (ex_at c.more (i := 223) (b := decide (PySem.W.excIn K (He.ga K "NoState") PySem.ErrX.bmA "ArithmeticError.__new__" = true)) rfl)
  rw [e_Cx12] at xi_Cx12
  have kp_Cx12 : PySem.W.keepIn K (.ref (He.ga K "NoState")) = true := of_decide_eq_true (ex_at c.more (i := 224) (b := decide (PySem.W.keepIn K (.ref (He.ga K "NoState")) = true)) rfl)
  rw [e_Cx12] at kp_Cx12
  have aC_Cx13 : PySem.W.nsIn K mainGlobals "NotFree" = some (some (.ref Cx13)) := by
    rw [← e_Cx13]
    exact He.eqO_ok (c.t.d.fact 28 (f := .glo "NotFree") rfl)
  have ei_Cx13 : PySem.W.excInitIn K (He.ga K "NotFree") PySem.ErrX.bmA "ArithmeticError.__new__" = true := of_decide_eq_true (ex_at c.more (i := 225) (b := decide (PySem.W.excInitIn K (He.ga K "NotFree") PySem.ErrX.bmA "ArithmeticError.__new__" = true)) rfl)
  rw [e_Cx13] at ei_Cx13
  have eo_Cx13 : PySem.W.excOver K (He.ga K "NotFree") PySem.ErrX.bmA = true := of_decide_eq_true (ex_at c.more (i := 226) (b := decide (PySem.W.excOver K (He.ga K "NotFree") PySem.ErrX.bmA = true)) rfl)
  rw [e_Cx13] at eo_Cx13
  have sa_Cx13 : PySem.W.findIn K (.ref (He.ga K "NotFree")) "__setattr__" = some (some (.builtin "object.__setattr__")) := of_decide_eq_true (ex_at c.more (i := 227) (b := decide (PySem.W.findIn K (.ref (He.ga K "NotFree")) "__setattr__" = some (some (.builtin "object.__setattr__")))) rfl)
  rw [e_Cx13] at sa_Cx13
  have ga_Cx13 : PySem.W.findIn K (.ref (He.ga K "NotFree")) "__getattribute__" = some (some (.builtin "BaseException.__getattribute__")) := of_decide_eq_true (ex_at c.more (i := 228) (b := decide (PySem.W.findIn K (.ref (He.ga K "NotFree")) "__getattribute__" = some (some (.builtin "BaseException.__getattribute__")))) rfl)
  rw [e_Cx13] at ga_Cx13
  have gg_Cx13 : PySem.W.findIn K (.ref (He.ga K "NotFree")) "__getattr__" = some none := of_decide_eq_true (ex_at c.more (i := 229) (b := decide (PySem.W.findIn K (.ref (He.ga K "NotFree")) "__getattr__" = some none)) rfl)
  rw [e_Cx13] at gg_Cx13
  have kC_Cx13 : PySem.W.keepIn K (.ref (He.ga K "NotFree")) = true := of_decide_eq_true (ex_at c.more (i := 230) (b := decide (PySem.W.keepIn K (.ref (He.ga K "NotFree")) = true)) rfl)
  rw [e_Cx13] at kC_Cx13
  have ex_Cx13 : PySem.W.subIn K (.ref (He.ga K "NotFree")) (.type "BaseException") = some true := of_decide_eq_true (ex_at c.more (i := 231) (b := decide (PySem.W.subIn K (.ref (He.ga K "NotFree")) (.type "BaseException") = some true)) rfl)
  rw [e_Cx13] at ex_Cx13
  have ty_Cx13 : PySem.W.typeIn K (.ref (He.ga K "NotFree")) = some (.type "type") := of_decide_eq_true (ex_at c.more (i := 232) (b := decide (PySem.W.typeIn K (.ref (He.ga K "NotFree")) = some (.type "type"))) rfl)
  rw [e_Cx13] at ty_Cx13
  have hd_Cx13 : PySem.W.hasDictIn K (He.ga K "NotFree") = true := of_decide_eq_true (ex_at c.more (i := 233) (b := decide (PySem.W.hasDictIn K (He.ga K "NotFree") = true)) rfl)
  rw [e_Cx13] at hd_Cx13
  have ha_Cx13 : PySem.W.findIn K (.ref (He.ga K "NotFree")) "__class__" = some (some (.builtin "object.__class__")) := of_decide_eq_true (ex_at c.more (i := 234) (b := decide (PySem.W.findIn K (.ref (He.ga K "NotFree")) "__class__" = some (some (.builtin "object.__class__")))) rfl)
  rw [e_Cx13] at ha_Cx13
  have hn_Cx13 : PySem.W.specialIn K (.builtin "object.__class__") "__get__" = some (some (.builtin "getset_descriptor.__get__")) := of_decide_eq_true (ex_at c.more (i := 235) (b := decide (PySem.W.specialIn K (.builtin "object.__class__") "__get__" = some (some (.builtin "getset_descriptor.__get__")))) rfl)
  have ht_Cx13 : PySem.W.takesIn K (.builtin "object.__class__") = some true := of_decide_eq_true (ex_at c.more (i := 236) (b := decide (PySem.W.takesIn K (.builtin "object.__class__") = some true)) rfl)
  have hm_Cx13 : PySem.W.mroIn K (He.ga K "NotFree") (.type "object") = some true := of_decide_eq_true (ex_at c.more (i := 237) (b := decide (PySem.W.mroIn K (He.ga K "NotFree") (.type "object") = some true)) rfl)
  rw [e_Cx13] at hm_Cx13
  have iC_Cx13 : PySem.W.findIn K (.ref (He.ga K "NotFree")) "__init__" = some (some (.ref (iniA K "NotFree"))) := of_decide_eq_true (ex_at c.more (i := 238) (b := decide (PySem.W.findIn K (.ref (He.ga K "NotFree")) "__init__" = some (some (.ref (iniA K "NotFree"))))) rfl)
  rw [e_Cx13] at iC_Cx13
  have tC_Cx13 : PySem.W.typeIn K (.ref (iniA K "NotFree")) = some (.type "function") := of_decide_eq_true (ex_at c.more (i := 239) (b := decide (PySem.W.typeIn K (.ref (iniA K "NotFree")) = some (.type "function"))) rfl)
  have nf_Cx13 : PySem.W.findIn K (.ref (He.ga K "NotFree")) "row" = some none := of_decide_eq_true (ex_at c.more (i := 240) (b := decide (PySem.W.findIn K (.ref (He.ga K "NotFree")) "row" = some none)) rfl)
  rw [e_Cx13] at nf_Cx13
  have su_Cx13 : PySem.W.ks_superIn K (He.ga K "NotFree") (He.ga K "NotFree") "__init__" = some (some (.builtin "ArithmeticError.__init__")) := of_decide_eq_true (ex_at c.more (i := 241) (b := decide (PySem.W.ks_superIn K (He.ga K "NotFree") (He.ga K "NotFree") "__init__" = some (some (.builtin "ArithmeticError.__init__")))) rfl)
  rw [e_Cx13] at su_Cx13
  have sA_Cx13 : PySem.W.subIn K (.ref (He.ga K "NotFree")) (.type "ArithmeticError") = some true := of_decide_eq_true (ex_at c.more (i := 242) (b := decide (PySem.W.subIn K (.ref (He.ga K "NotFree")) (.type "ArithmeticError") = some true)) rfl)
  rw [e_Cx13] at sA_Cx13
  have sf_Cx13 : PySem.W.mroIn K (He.ga K "NotFree") (.ref (He.ga K "NotFree")) = some true := of_decide_eq_true (ex_at c.more (i := 243) (b := decide (PySem.W.mroIn K (He.ga K "NotFree") (.ref (He.ga K "NotFree")) = some true)) rfl)
  rw [e_Cx13] at sf_Cx13
  have th_Cx13 : PySem.W.nsIn K cStatics "thirdparty.any" = some none := of_decide_eq_true (ex_at c.more (i := 244) (b := decide (PySem.W.nsIn K cStatics "thirdparty.any" = some none)) rfl)
  have ms_Cx13 : PySem.W.nsIn K mainGlobals "super" = some none := of_decide_eq_true (ex_at c.more (i := 245) (b := decide (PySem.W.nsIn K mainGlobals "super" = some none)) rfl)
  obtain ⟨cc_Cx13, dV_Cx13, ih_Cx13⟩ := errD_ok (d := ed_Cx13) hfile (ini_at c.ini (i := 7) rfl) (ex_at c.more (i := 246) (b := ed_Cx13.ok K) rfl)
  have EC_Cx13 : PySem.ErrX.ErrC K mg "NotFree" Cx13 := ⟨PySem.W.mg_of X G aC_Cx13, ei_Cx13, eo_Cx13, sa_Cx13, ga_Cx13, gg_Cx13, kC_Cx13, ex_Cx13, ty_Cx13, hd_Cx13⟩
  have cl_Cx13 := ih_Cx13.cell
  rw [show He.ga K ed_Cx13.x = Cx13 from e_Cx13] at cl_Cx13
  have IC_Cx13 : PySem.ErrX.IniC l.prog K mg Cx13 (iniA K "NotFree") cc_Cx13 "NotFree.__init__" "row" s_NotFree___init__ dV_Cx13 := ⟨iC_Cx13, tC_Cx13, ih_Cx13.fn, cl_Cx13, nf_Cx13, su_Cx13, sA_Cx13, sf_Cx13, th_Cx13, PySem.W.mg_none_of X G ms_Cx13, htop⟩
  have XC_Cx13 : ExcC K Cx13 := ⟨ga_Cx13, gg_Cx13, ex_Cx13, hd_Cx13, ha_Cx13, hn_Cx13, ht_Cx13, hm_Cx13⟩
  have aC_Cx14 : PySem.W.nsIn K mainGlobals "NoChoice" = some (some (.ref Cx14)) := by
    rw [← e_Cx14]
    exact He.eqO_ok (c.t.d.fact 29 (f := .glo "NoChoice") rfl)
  have ga_Cx14 : PySem.W.findIn K (.ref (He.ga K "NoChoice")) "__getattribute__" = some (some (.builtin "BaseException.__getattribute__")) := of_decide_eq_true (ex_at c.more (i := 247) (b := decide (PySem.W.findIn K (.ref (He.ga K "NoChoice")) "__getattribute__" = some (some (.builtin "BaseException.__getattribute__")))) rfl)
  rw [e_Cx14] at ga_Cx14
  have gg_Cx14 : PySem.W.findIn K (.ref (He.ga K "NoChoice")) "__getattr__" = some none := of_decide_eq_true (ex_at c.more (i := 248) (b := decide (PySem.W.findIn K (.ref (He.ga K "NoChoice")) "__getattr__" = some none)) rfl)
  rw [e_Cx14] at gg_Cx14
  have ex_Cx14 : PySem.W.subIn K (.ref (He.ga K "NoChoice")) (.type "BaseException") = some true := of_decide_eq_true (ex_at c.more (i := 249) (b := decide (PySem.W.subIn K (.ref (He.ga K "NoChoice")) (.type "BaseException") = some true)) rfl)
  rw [e_Cx14] at ex_Cx14
  have hd_Cx14 : PySem.W.hasDictIn K (He.ga K "NoChoice") = true := of_decide_eq_true (ex_at c.more (i := 250) (b := decide (PySem.W.hasDictIn K (He.ga K "NoChoice") = true)) rfl)
  rw [e_Cx14] at hd_Cx14
  have ha_Cx14 : PySem.W.findIn K (.ref (He.ga K "NoChoice")) "__class__" = some (some (.builtin "object.__class__")) := of_decide_eq_true (ex_at c.more (i := 251) (b := decide (PySem.W.findIn K (.ref (He.ga K "NoChoice")) "__class__" = some (some (.builtin "object.__class__")))) rfl)
  rw [e_Cx14] at ha_Cx14
  have hn_Cx14 : PySem.W.specialIn K (.builtin "object.__class__") "__get__" = some (some (.builtin "getset_descriptor.__get__")) := of_decide_eq_true (ex_at c.more (i := 252) (b := decide (PySem.W.specialIn K (.builtin "object.__class__") "__get__" = some (some (.builtin "getset_descriptor.__get__")))) rfl)
  have ht_Cx14 : PySem.W.takesIn K (.builtin "object.__class__") = some true := of_decide_eq_true (ex_at c.more (i := 253) (b := decide (PySem.W.takesIn K (.builtin "object.__class__") = some true)) rfl)
  have hm_Cx14 : PySem.W.mroIn K (He.ga K "NoChoice") (.type "object") = some true := of_decide_eq_true (ex_at c.more (i := 254) (b := decide (PySem.W.mroIn K (He.ga K "NoChoice") (.type "object") = some true)) rfl)
  rw [e_Cx14] at hm_Cx14
  have xi_Cx14 : PySem.W.excIn K (He.ga K "NoChoice") PySem.ErrX.bmA "ArithmeticError.__new__" = true := of_decide_eq_true (ex_at c.more (i := 255) (b := decide (PySem.W.excIn K (He.ga K "NoChoice") PySem.ErrX.bmA "ArithmeticError.__new__" = true)) rfl)
  rw [e_Cx14] at xi_Cx14
  have kp_Cx14 : PySem.W.keepIn K (.ref (He.ga K "NoChoice")) = true := of_decide_eq_true (ex_at c.more (i := 256) (b := decide (PySem.W.keepIn K (.ref (He.ga K "NoChoice")) = true)) rfl)
  rw [e_Cx14] at kp_Cx14
  have aC_Cx15 : PySem.W.nsIn K mainGlobals "NoText" = some (some (.ref Cx15)) := by
    rw [← e_Cx15]
    exact He.eqO_ok (c.t.d.fact 30 (f := .glo "NoText") rfl)
  have ei_Cx15 : PySem.W.excInitIn K (He.ga K "NoText") PySem.ErrX.bmA "ArithmeticError.__new__" = true := of_decide_eq_true (ex_at c.more (i := 257) (b := decide (PySem.W.excInitIn K (He.ga K "NoText") PySem.ErrX.bmA "ArithmeticError.__new__" = true)) rfl)
  rw [e_Cx15] at ei_Cx15
  have eo_Cx15 : PySem.W.excOver K (He.ga K "NoText") PySem.ErrX.bmA = true := of_decide_eq_true (ex_at c.more (i := 258) (b := decide (PySem.W.excOver K (He.ga K "NoText") PySem.ErrX.bmA = true)) rfl)
  rw [e_Cx15] at eo_Cx15
  have sa_Cx15 : PySem.W.findIn K (.ref (He.ga K "NoText")) "__setattr__" = some (some (.builtin "object.__setattr__")) := of_decide_eq_true (ex_at c.more (i := 259) (b := decide (PySem.W.findIn K (.ref (He.ga K "NoText")) "__setattr__" = some (some (.builtin "object.__setattr__")))) rfl)
  rw [e_Cx15] at sa_Cx15
  have ga_Cx15 : PySem.W.findIn K (.ref (He.ga K "NoText")) "__getattribute__" = some (some (.builtin "BaseException.__getattribute__")) := of_decide_eq_true (ex_at c.more (i := 260) (b := decide (PySem.W.findIn K (.ref (He.ga K "NoText")) "__getattribute__" = some (some (.builtin "BaseException.__getattribute__")))) rfl)
  rw [e_Cx15] at ga_Cx15
  have gg_Cx15 : PySem.W.findIn K (.ref (He.ga K "NoText")) "__getattr__" = some none := of_decide_eq_true (ex_at c.more (i := 261) (b := decide (PySem.W.findIn K (.ref (He.ga K "NoText")) "__getattr__" = some none)) rfl)
  rw [e_Cx15] at gg_Cx15
  have kC_Cx15 : PySem.W.keepIn K (.ref (He.ga K "NoText")) = true := of_decide_eq_true (ex_at c.more (i := 262) (b := decide (PySem.W.keepIn K (.ref (He.ga K "NoText")) = true)) rfl)
  rw [e_Cx15] at kC_Cx15
  have ex_Cx15 : PySem.W.subIn K (.ref (He.ga K "NoText")) (.type "BaseException") = some true := of_decide_eq_true (ex_at c.more (i := 263) (b := decide (PySem.W.subIn K (.ref (He.ga K "NoText")) (.type "BaseException") = some true)) rfl)
  rw [e_Cx15] at ex_Cx15
  have ty_Cx15 : PySem.W.typeIn K (.ref (He.ga K "NoText")) = some (.type "type") := of_decide_eq_true (ex_at c.more (i := 264) (b := decide (PySem.W.typeIn K (.ref (He.ga K "NoText")) = some (.type "type"))) rfl)
  rw [e_Cx15] at ty_Cx15
  have hd_Cx15 : PySem.W.hasDictIn K (He.ga K "NoText") = true := of_decide_eq_true (ex_at c.more (i := 265) (b := decide (PySem.W.hasDictIn K (He.ga K "NoText") = true)) rfl)
  rw [e_Cx15] at hd_Cx15
  have ha_Cx15 : PySem.W.findIn K (.ref (He.ga K "NoText")) "__class__" = some (some (.builtin "object.__class__")) := of_decide_eq_true (ex_at c.more (i := 266) (b := decide (PySem.W.findIn K (.ref (He.ga K "NoText")) "__class__" = some (some (.builtin "object.__class__")))) rfl)
  rw [e_Cx15] at ha_Cx15
  have hn_Cx15 : PySem.W.specialIn K (.builtin "object.__class__") "__get__" = some (some (.builtin "getset_descriptor.__get__")) := of_decide_eq_true (ex_at c.more (i := 267) (b := decide (PySem.W.specialIn K (.builtin "object.__class__") "__get__" = some (some (.builtin "getset_descriptor.__get__")))) rfl)
  have ht_Cx15 : PySem.W.takesIn K (.builtin "object.__class__") = some true := of_decide_eq_true (ex_at c.more (i := 268) (b := decide (PySem.W.takesIn K (.builtin "object.__class__") = some true)) rfl)
  have hm_Cx15 : PySem.W.mroIn K (He.ga K "NoText") (.type "object") = some true := of_decide_eq_true (ex_at c.more (i := 269) (b := decide (PySem.W.mroIn K (He.ga K "NoText") (.type "object") = some true)) rfl)
  rw [e_Cx15] at hm_Cx15
  have iC_Cx15 : PySem.W.findIn K (.ref (He.ga K "NoText")) "__init__" = some (some (.ref (iniA K "NoText"))) := of_decide_eq_true (ex_at c.more (i := 270) (b := decide (PySem.W.findIn K (.ref (He.ga K "NoText")) "__init__" = some (some (.ref (iniA K "NoText"))))) rfl)
  rw [e_Cx15] at iC_Cx15
  have tC_Cx15 : PySem.W.typeIn K (.ref (iniA K "NoText")) = some (.type "function") := of_decide_eq_true (ex_at c.more (i := 271) (b := decide (PySem.W.typeIn K (.ref (iniA K "NoText")) = some (.type "function"))) rfl)
  have nf_Cx15 : PySem.W.findIn K (.ref (He.ga K "NoText")) "line" = some none := of_decide_eq_true (ex_at c.more (i := 272) (b := decide (PySem.W.findIn K (.ref (He.ga K "NoText")) "line" = some none)) rfl)
  rw [e_Cx15] at nf_Cx15
  have su_Cx15 : PySem.W.ks_superIn K (He.ga K "NoText") (He.ga K "NoText") "__init__" = some (some (.builtin "ArithmeticError.__init__")) := of_decide_eq_true (ex_at c.more (i := 273) (b := decide (PySem.W.ks_superIn K (He.ga K "NoText") (He.ga K "NoText") "__init__" = some (some (.builtin "ArithmeticError.__init__")))) rfl)
  rw [e_Cx15] at su_Cx15
  have sA_Cx15 : PySem.W.subIn K (.ref (He.ga K "NoText")) (.type "ArithmeticError") = some true := of_decide_eq_true (ex_at c.more (i := 274) (b := decide (PySem.W.subIn K (.ref (He.ga K "NoText")) (.type "ArithmeticError") = some true)) rfl)
  rw [e_Cx15] at sA_Cx15
  have sf_Cx15 : PySem.W.mroIn K (He.ga K "NoText") (.ref (He.ga K "NoText")) = some true := of_decide_eq_true (ex_at c.more (i := 275) (b := decide (PySem.W.mroIn K (He.ga K "NoText") (.ref (He.ga K "NoText")) = some true)) rfl)
  rw [e_Cx15] at sf_Cx15
  have th_Cx15 : PySem.W.nsIn K cStatics "thirdparty.any" = some none := of_decide_eq_true (ex_at c.more (i := 276) (b := decide (PySem.W.nsIn K cStatics "thirdparty.any" = some none)) rfl)
  have ms_Cx15 : PySem.W.nsIn K mainGlobals "super" = some none := of_decide_eq_true (ex_at c.more (i := 277) (b := decide (PySem.W.nsIn K mainGlobals "super" = some none)) rfl)
  obtain ⟨cc_Cx15, dV_Cx15, ih_Cx15⟩ := errD_ok (d := ed_Cx15) hfile (ini_at c.ini (i := 8) rfl) (ex_at c.more (i := 278) (b := ed_Cx15.ok K) rfl)
  have EC_Cx15 : PySem.ErrX.ErrC K mg "NoText" Cx15 := ⟨PySem.W.mg_of X G aC_Cx15, ei_Cx15, eo_Cx15, sa_Cx15, ga_Cx15, gg_Cx15, kC_Cx15, ex_Cx15, ty_Cx15, hd_Cx15⟩
  have cl_Cx15 := ih_Cx15.cell
  rw [show He.ga K ed_Cx15.x = Cx15 from e_Cx15] at cl_Cx15
  have IC_Cx15 : PySem.ErrX.IniC l.prog K mg Cx15 (iniA K "NoText") cc_Cx15 "NoText.__init__" "line" s_NoText___init__ dV_Cx15 := ⟨iC_Cx15, tC_Cx15, ih_Cx15.fn, cl_Cx15, nf_Cx15, su_Cx15, sA_Cx15, sf_Cx15, th_Cx15, PySem.W.mg_none_of X G ms_Cx15, htop⟩
  have XC_Cx15 : ExcC K Cx15 := ⟨ga_Cx15, gg_Cx15, ex_Cx15, hd_Cx15, ha_Cx15, hn_Cx15, ht_Cx15, hm_Cx15⟩
  have aC_Cx16 : PySem.W.nsIn K mainGlobals "NoLine" = some (some (.ref Cx16)) := by
    rw [← e_Cx16]
    exact He.eqO_ok (c.t.d.fact 31 (f := .glo "NoLine") rfl)
  have ga_Cx16 : PySem.W.findIn K (.ref (He.ga K "NoLine")) "__getattribute__" = some (some (.builtin "BaseException.__getattribute__")) := of_decide_eq_true (ex_at c.more (i := 279) (b := decide (PySem.W.findIn K (.ref (He.ga K "NoLine")) "__getattribute__" = some (some (.builtin "BaseException.__getattribute__")))) rfl)
  rw [e_Cx16] at ga_Cx16
  have gg_Cx16 : PySem.W.findIn K (.ref (He.ga K "NoLine")) "__getattr__" = some none := of_decide_eq_true (ex_at c.more (i := 280) (b := decide (PySem.W.findIn K (.ref (He.ga K "NoLine")) "__getattr__" = some none)) rfl)
  rw [e_Cx16] at gg_Cx16
  have ex_Cx16 : PySem.W.subIn K (.ref (He.ga K "NoLine")) (.type "BaseException") = some true := of_decide_eq_true (ex_at c.more (i := 281) (b := decide (PySem.W.subIn K (.ref (He.ga K "NoLine")) (.type "BaseException") = some true)) rfl)
  rw [e_Cx16] at ex_Cx16
  have hd_Cx16 : PySem.W.hasDictIn K (He.ga K "NoLine") = true := of_decide_eq_true (ex_at c.more (i := 282) (b := decide (PySem.W.hasDictIn K (He.ga K "NoLine") = true)) rfl)
  rw [e_Cx16] at hd_Cx16
  have ha_Cx16 : PySem.W.findIn K (.ref (He.ga K "NoLine")) "__class__" = some (some (.builtin "object.__class__")) := of_decide_eq_true (ex_at c.more (i := 283) (b := decide (PySem.W.findIn K (.ref (He.ga K "NoLine")) "__class__" = some (some (.builtin "object.__class__")))) rfl)
  rw [e_Cx16] at ha_Cx16
  have hn_Cx16 : PySem.W.specialIn K (.builtin "object.__class__") "__get__" = some (some (.builtin "getset_descriptor.__get__")) := of_decide_eq_true (ex_at c.more (i := 284) (b := decide (PySem.W.specialIn K (.builtin "object.__class__") "__get__" = some (some (.builtin "getset_descriptor.__get__")))) rfl)
  have ht_Cx16 : PySem.W.takesIn K (.builtin "object.__class__") = some true := of_decide_eq_true (ex_at c.more (i := 285) (b := decide (PySem.W.takesIn K (.builtin "object.__class__") = some true)) rfl)
  have hm_Cx16 : PySem.W.mroIn K (He.ga K "NoLine") (.type "object") = some true := of_decide_eq_true (ex_at c.more (i := 286) (b := decide (PySem.W.mroIn K (He.ga K "NoLine") (.type "object") = some true)) rfl)
  rw [e_Cx16] at hm_Cx16
  have xi_Cx16 : PySem.W.excIn K (He.ga K "NoLine") PySem.ErrX.bmA "ArithmeticError.__new__" = true := of_decide_eq_true (ex_at c.more (i := 287) (b := decide (PySem.W.excIn K (He.ga K "NoLine") PySem.ErrX.bmA "ArithmeticError.__new__" = true)) rfl)
  rw [e_Cx16] at xi_Cx16
  have kp_Cx16 : PySem.W.keepIn K (.ref (He.ga K "NoLine")) = true := of_decide_eq_true (ex_at c.more (i := 288) (b := decide (PySem.W.keepIn K (.ref (He.ga K "NoLine")) = true)) rfl)
  rw [e_Cx16] at kp_Cx16
  have aC_Cx17 : PySem.W.nsIn K mainGlobals "NoName" = some (some (.ref Cx17)) := by
    rw [← e_Cx17]
    exact He.eqO_ok (c.t.d.fact 32 (f := .glo "NoName") rfl)
  have ei_Cx17 : PySem.W.excInitIn K (He.ga K "NoName") PySem.ErrX.bmA "ArithmeticError.__new__" = true := of_decide_eq_true (ex_at c.more (i := 289) (b := decide (PySem.W.excInitIn K (He.ga K "NoName") PySem.ErrX.bmA "ArithmeticError.__new__" = true)) rfl)
  rw [e_Cx17] at ei_Cx17
  have eo_Cx17 : PySem.W.excOver K (He.ga K "NoName") PySem.ErrX.bmA = true := of_decide_eq_true (ex_at c.more (i := 290) (b := decide (PySem.W.excOver K (He.ga K "NoName") PySem.ErrX.bmA = true)) rfl)
  rw [e_Cx17] at eo_Cx17
  have sa_Cx17 : PySem.W.findIn K (.ref (He.ga K "NoName")) "__setattr__" = some (some (.builtin "object.__setattr__")) := of_decide_eq_true (ex_at c.more (i := 291) (b := decide (PySem.W.findIn K (.ref (He.ga K "NoName")) "__setattr__" = some (some (.builtin "object.__setattr__")))) rfl)
  rw [e_Cx17] at sa_Cx17
  have ga_Cx17 : PySem.W.findIn K (.ref (He.ga K "NoName")) "__getattribute__" = some (some (.builtin "BaseException.__getattribute__")) := of_decide_eq_true (ex_at c.more (i := 292) (b := decide (PySem.W.findIn K (.ref (He.ga K "NoName")) "__getattribute__" = some (some (.builtin "BaseException.__getattribute__")))) rfl)
  rw [e_Cx17] at ga_Cx17
  have gg_Cx17 : PySem.W.findIn K (.ref (He.ga K "NoName")) "__getattr__" = some none := of_decide_eq_true (ex_at c.more (i := 293) (b := decide (PySem.W.findIn K (.ref (He.ga K "NoName")) "__getattr__" = some none)) rfl)
  rw [e_Cx17] at gg_Cx17
  have kC_Cx17 : PySem.W.keepIn K (.ref (He.ga K "NoName")) = true := of_decide_eq_true (ex_at c.more (i := 294) (b := decide (PySem.W.keepIn K (.ref (He.ga K "NoName")) = true)) rfl)
  rw [e_Cx17] at kC_Cx17
  have ex_Cx17 : PySem.W.subIn K (.ref (He.ga K "NoName")) (.type "BaseException") = some true := of_decide_eq_true (ex_at c.more (i := 295) (b := decide (PySem.W.subIn K (.ref (He.ga K "NoName")) (.type "BaseException") = some true)) rfl)
  rw [e_Cx17] at ex_Cx17
  have ty_Cx17 : PySem.W.typeIn K (.ref (He.ga K "NoName")) = some (.type "type") := of_decide_eq_true (ex_at c.more (i := 296) (b := decide (PySem.W.typeIn K (.ref (He.ga K "NoName")) = some (.type "type"))) rfl)
  rw [e_Cx17] at ty_Cx17
  have hd_Cx17 : PySem.W.hasDictIn K (He.ga K "NoName") = true := of_decide_eq_true (ex_at c.more (i := 297) (b := decide (PySem.W.hasDictIn K (He.ga K "NoName") = true)) rfl)
  rw [e_Cx17] at hd_Cx17
  have ha_Cx17 : PySem.W.findIn K (.ref (He.ga K "NoName")) "__class__" = some (some (.builtin "object.__class__")) := of_decide_eq_true (ex_at c.more (i := 298) (b := decide (PySem.W.findIn K (.ref (He.ga K "NoName")) "__class__" = some (some (.builtin "object.__class__")))) rfl)
  rw [e_Cx17] at ha_Cx17
  have hn_Cx17 : PySem.W.specialIn K (.builtin "object.__class__") "__get__" = some (some (.builtin "getset_descriptor.__get__")) := of_decide_eq_true (ex_at c.more (i := 299) (b := decide (PySem.W.specialIn K (.builtin "object.__class__") "__get__" = some (some (.builtin "getset_descriptor.__get__")))) rfl)
  have ht_Cx17 : PySem.W.takesIn K (.builtin "object.__class__") = some true := of_decide_eq_true (ex_at c.more (i := 300) (b := decide (PySem.W.takesIn K (.builtin "object.__class__") = some true)) rfl)
  have hm_Cx17 : PySem.W.mroIn K (He.ga K "NoName") (.type "object") = some true := of_decide_eq_true (ex_at c.more (i := 301) (b := decide (PySem.W.mroIn K (He.ga K "NoName") (.type "object") = some true)) rfl)
  rw [e_Cx17] at hm_Cx17
  have iC_Cx17 : PySem.W.findIn K (.ref (He.ga K "NoName")) "__init__" = some (some (.ref (iniA K "NoName"))) := of_decide_eq_true (ex_at c.more (i := 302) (b := decide (PySem.W.findIn K (.ref (He.ga K "NoName")) "__init__" = some (some (.ref (iniA K "NoName"))))) rfl)
  rw [e_Cx17] at iC_Cx17
  have tC_Cx17 : PySem.W.typeIn K (.ref (iniA K "NoName")) = some (.type "function") := of_decide_eq_true (ex_at c.more (i := 303) (b := decide (PySem.W.typeIn K (.ref (iniA K "NoName")) = some (.type "function"))) rfl)
  have nf_Cx17 : PySem.W.findIn K (.ref (He.ga K "NoName")) "name" = some none := of_decide_eq_true (ex_at c.more (i := 304) (b := decide (PySem.W.findIn K (.ref (He.ga K "NoName")) "name" = some none)) rfl)
  rw [e_Cx17] at nf_Cx17
  have su_Cx17 : PySem.W.ks_superIn K (He.ga K "NoName") (He.ga K "NoName") "__init__" = some (some (.builtin "ArithmeticError.__init__")) := of_decide_eq_true (ex_at c.more (i := 305) (b := decide (PySem.W.ks_superIn K (He.ga K "NoName") (He.ga K "NoName") "__init__" = some (some (.builtin "ArithmeticError.__init__")))) rfl)
  rw [e_Cx17] at su_Cx17
  have sA_Cx17 : PySem.W.subIn K (.ref (He.ga K "NoName")) (.type "ArithmeticError") = some true := of_decide_eq_true (ex_at c.more (i := 306) (b := decide (PySem.W.subIn K (.ref (He.ga K "NoName")) (.type "ArithmeticError") = some true)) rfl)
  rw [e_Cx17] at sA_Cx17
  have sf_Cx17 : PySem.W.mroIn K (He.ga K "NoName") (.ref (He.ga K "NoName")) = some true := of_decide_eq_true (ex_at c.more (i := 307) (b := decide (PySem.W.mroIn K (He.ga K "NoName") (.ref (He.ga K "NoName")) = some true)) rfl)
  rw [e_Cx17] at sf_Cx17
  have th_Cx17 : PySem.W.nsIn K cStatics "thirdparty.any" = some none := of_decide_eq_true (ex_at c.more (i := 308) (b := decide (PySem.W.nsIn K cStatics "thirdparty.any" = some none)) rfl)
  have ms_Cx17 : PySem.W.nsIn K mainGlobals "super" = some none := of_decide_eq_true (ex_at c.more (i := 309) (b := decide (PySem.W.nsIn K mainGlobals "super" = some none)) rfl)
  obtain ⟨cc_Cx17, dV_Cx17, ih_Cx17⟩ := errD_ok (d := ed_Cx17) hfile (ini_at c.ini (i := 9) rfl) (ex_at c.more (i := 310) (b := ed_Cx17.ok K) rfl)
  have EC_Cx17 : PySem.ErrX.ErrC K mg "NoName" Cx17 := ⟨PySem.W.mg_of X G aC_Cx17, ei_Cx17, eo_Cx17, sa_Cx17, ga_Cx17, gg_Cx17, kC_Cx17, ex_Cx17, ty_Cx17, hd_Cx17⟩
  have cl_Cx17 := ih_Cx17.cell
  rw [show He.ga K ed_Cx17.x = Cx17 from e_Cx17] at cl_Cx17
  have IC_Cx17 : PySem.ErrX.IniC l.prog K mg Cx17 (iniA K "NoName") cc_Cx17 "NoName.__init__" "name" s_NoName___init__ dV_Cx17 := ⟨iC_Cx17, tC_Cx17, ih_Cx17.fn, cl_Cx17, nf_Cx17, su_Cx17, sA_Cx17, sf_Cx17, th_Cx17, PySem.W.mg_none_of X G ms_Cx17, htop⟩
  have XC_Cx17 : ExcC K Cx17 := ⟨ga_Cx17, gg_Cx17, ex_Cx17, hd_Cx17, ha_Cx17, hn_Cx17, ht_Cx17, hm_Cx17⟩
  have dz_Cx2 : dflI K isNought (iniA K "Unfit") = true := of_decide_eq_true (ex_at c.more (i := 311) (b := decide (dflI K isNought (iniA K "Unfit") = true)) rfl)
  have dz_Cx15 : dflI K isNought (iniA K "NoText") = true := of_decide_eq_true (ex_at c.more (i := 312) (b := decide (dflI K isNought (iniA K "NoText") = true)) rfl)
  have dz_BN : dflI K isNone (iniA K "BadNet") = true := of_decide_eq_true (ex_at c.more (i := 313) (b := decide (dflI K isNone (iniA K "BadNet") = true)) rfl)
  have kt : kitAll K [(He.ga K "NoFraction"), (He.ga K "BadForm"), (He.ga K "Unfit"), (He.ga K "NoMatrix"), (He.ga K "NoSeries"), (He.ga K "NotStill"), (He.ga K "TooSlow"), (He.ga K "BadNet"), (He.ga K "BadState"), (He.ga K "NoTurn"), (He.ga K "NoWords"), (He.ga K "TooMany"), (He.ga K "NoState"), (He.ga K "NotFree"), (He.ga K "NoChoice"), (He.ga K "NoText"), (He.ga K "NoLine"), (He.ga K "NoName")] = true := of_decide_eq_true (ex_at c.more (i := 314) (b := decide (kitAll K [(He.ga K "NoFraction"), (He.ga K "BadForm"), (He.ga K "Unfit"), (He.ga K "NoMatrix"), (He.ga K "NoSeries"), (He.ga K "NotStill"), (He.ga K "TooSlow"), (He.ga K "BadNet"), (He.ga K "BadState"), (He.ga K "NoTurn"), (He.ga K "NoWords"), (He.ga K "TooMany"), (He.ga K "NoState"), (He.ga K "NotFree"), (He.ga K "NoChoice"), (He.ga K "NoText"), (He.ga K "NoLine"), (He.ga K "NoName")] = true)) rfl)
  rw [e_Cx0] at kt
  rw [e_Cx1] at kt
  rw [e_Cx2] at kt
  rw [e_Cx3] at kt
  rw [e_Cx4] at kt
  rw [e_Cx5] at kt
  rw [e_Cx6] at kt
  rw [e_Cx7] at kt
  rw [e_Cx8] at kt
  rw [e_Cx9] at kt
  rw [e_Cx10] at kt
  rw [e_Cx11] at kt
  rw [e_Cx12] at kt
  rw [e_Cx13] at kt
  rw [e_Cx14] at kt
  rw [e_Cx15] at kt
  rw [e_Cx16] at kt
  rw [e_Cx17] at kt
  have ktE : kitC K [(He.ga K "NoFraction"), (He.ga K "BadForm"), (He.ga K "Unfit"), (He.ga K "NoMatrix"), (He.ga K "NoSeries"), (He.ga K "NotStill"), (He.ga K "TooSlow"), (He.ga K "BadNet"), (He.ga K "BadState"), (He.ga K "NoTurn"), (He.ga K "NoWords"), (He.ga K "TooMany"), (He.ga K "NoState"), (He.ga K "NotFree"), (He.ga K "NoChoice"), (He.ga K "NoText"), (He.ga K "NoLine"), (He.ga K "NoName")] (.ref (He.ga K "EchoError")) true = true := of_decide_eq_true (ex_at c.more (i := 315) (b := decide (kitC K [(He.ga K "NoFraction"), (He.ga K "BadForm"), (He.ga K "Unfit"), (He.ga K "NoMatrix"), (He.ga K "NoSeries"), (He.ga K "NotStill"), (He.ga K "TooSlow"), (He.ga K "BadNet"), (He.ga K "BadState"), (He.ga K "NoTurn"), (He.ga K "NoWords"), (He.ga K "TooMany"), (He.ga K "NoState"), (He.ga K "NotFree"), (He.ga K "NoChoice"), (He.ga K "NoText"), (He.ga K "NoLine"), (He.ga K "NoName")] (.ref (He.ga K "EchoError")) true = true)) rfl)
  rw [e_CE] at ktE
  rw [e_Cx0] at ktE
  rw [e_Cx1] at ktE
  rw [e_Cx2] at ktE
  rw [e_Cx3] at ktE
  rw [e_Cx4] at ktE
  rw [e_Cx5] at ktE
  rw [e_Cx6] at ktE
  rw [e_Cx7] at ktE
  rw [e_Cx8] at ktE
  rw [e_Cx9] at ktE
  rw [e_Cx10] at ktE
  rw [e_Cx11] at ktE
  rw [e_Cx12] at ktE
  rw [e_Cx13] at ktE
  rw [e_Cx14] at ktE
  rw [e_Cx15] at ktE
  rw [e_Cx16] at ktE
  rw [e_Cx17] at ktE
  have ktA : kitC K [(He.ga K "NoFraction"), (He.ga K "BadForm"), (He.ga K "Unfit"), (He.ga K "NoMatrix"), (He.ga K "NoSeries"), (He.ga K "NotStill"), (He.ga K "TooSlow"), (He.ga K "BadNet"), (He.ga K "BadState"), (He.ga K "NoTurn"), (He.ga K "NoWords"), (He.ga K "TooMany"), (He.ga K "NoState"), (He.ga K "NotFree"), (He.ga K "NoChoice"), (He.ga K "NoText"), (He.ga K "NoLine"), (He.ga K "NoName")] (.type "ArithmeticError") true = true := of_decide_eq_true (ex_at c.more (i := 316) (b := decide (kitC K [(He.ga K "NoFraction"), (He.ga K "BadForm"), (He.ga K "Unfit"), (He.ga K "NoMatrix"), (He.ga K "NoSeries"), (He.ga K "NotStill"), (He.ga K "TooSlow"), (He.ga K "BadNet"), (He.ga K "BadState"), (He.ga K "NoTurn"), (He.ga K "NoWords"), (He.ga K "TooMany"), (He.ga K "NoState"), (He.ga K "NotFree"), (He.ga K "NoChoice"), (He.ga K "NoText"), (He.ga K "NoLine"), (He.ga K "NoName")] (.type "ArithmeticError") true = true)) rfl)
  rw [e_Cx0] at ktA
  rw [e_Cx1] at ktA
  rw [e_Cx2] at ktA
  rw [e_Cx3] at ktA
  rw [e_Cx4] at ktA
  rw [e_Cx5] at ktA
  rw [e_Cx6] at ktA
  rw [e_Cx7] at ktA
  rw [e_Cx8] at ktA
  rw [e_Cx9] at ktA
  rw [e_Cx10] at ktA
  rw [e_Cx11] at ktA
  rw [e_Cx12] at ktA
  rw [e_Cx13] at ktA
  rw [e_Cx14] at ktA
  rw [e_Cx15] at ktA
  rw [e_Cx16] at ktA
  rw [e_Cx17] at ktA
  have ktV : kitA K [(He.ga K "NoFraction"), (He.ga K "BadForm"), (He.ga K "Unfit"), (He.ga K "NoMatrix"), (He.ga K "NoSeries"), (He.ga K "NotStill"), (He.ga K "TooSlow"), (He.ga K "BadNet"), (He.ga K "BadState"), (He.ga K "NoTurn"), (He.ga K "NoWords"), (He.ga K "TooMany"), (He.ga K "NoState"), (He.ga K "NotFree"), (He.ga K "NoChoice"), (He.ga K "NoText"), (He.ga K "NoLine"), (He.ga K "NoName")] [.type "ValueError", .type "KeyError"] false = true := of_decide_eq_true (ex_at c.more (i := 317) (b := decide (kitA K [(He.ga K "NoFraction"), (He.ga K "BadForm"), (He.ga K "Unfit"), (He.ga K "NoMatrix"), (He.ga K "NoSeries"), (He.ga K "NotStill"), (He.ga K "TooSlow"), (He.ga K "BadNet"), (He.ga K "BadState"), (He.ga K "NoTurn"), (He.ga K "NoWords"), (He.ga K "TooMany"), (He.ga K "NoState"), (He.ga K "NotFree"), (He.ga K "NoChoice"), (He.ga K "NoText"), (He.ga K "NoLine"), (He.ga K "NoName")] [.type "ValueError", .type "KeyError"] false = true)) rfl)
  rw [e_Cx0] at ktV
  rw [e_Cx1] at ktV
  rw [e_Cx2] at ktV
  rw [e_Cx3] at ktV
  rw [e_Cx4] at ktV
  rw [e_Cx5] at ktV
  rw [e_Cx6] at ktV
  rw [e_Cx7] at ktV
  rw [e_Cx8] at ktV
  rw [e_Cx9] at ktV
  rw [e_Cx10] at ktV
  rw [e_Cx11] at ktV
  rw [e_Cx12] at ktV
  rw [e_Cx13] at ktV
  rw [e_Cx14] at ktV
  rw [e_Cx15] at ktV
  rw [e_Cx16] at ktV
  rw [e_Cx17] at ktV
  have k2 : PySem.W.kitAny K (.ref (He.ga K "EchoError")) [.ref (He.ga K "NoFraction"), .ref (He.ga K "BadState")] = some false := of_decide_eq_true (ex_at c.more (i := 318) (b := decide (PySem.W.kitAny K (.ref (He.ga K "EchoError")) [.ref (He.ga K "NoFraction"), .ref (He.ga K "BadState")] = some false)) rfl)
  rw [e_CE] at k2
  rw [e_Cx0] at k2
  rw [e_Cx8] at k2
  have k3 : PySem.W.kitOne K (.ref (He.ga K "EchoError")) (.type "ArithmeticError") = some true := of_decide_eq_true (ex_at c.more (i := 319) (b := decide (PySem.W.kitOne K (.ref (He.ga K "EchoError")) (.type "ArithmeticError") = some true)) rfl)
  rw [e_CE] at k3
  have z_A : PySem.W.nsIn K mainGlobals "ArithmeticError" = some none := of_decide_eq_true (ex_at c.more (i := 320) (b := decide (PySem.W.nsIn K mainGlobals "ArithmeticError" = some none)) rfl)

  have z : Zs mg := ⟨zf_len, zf_int, zf_isinstance, zf_enumerate, zf_range, zf_ValueError, zf_KeyError⟩
  have e := hfa.symm.trans (PySem.W.mg_of X G a_law)
  cases e
  have FL_law : FunD K "law" "law" (defArgs s_law) (defBody s_law) (defScope s_law) [] [] (He.ga K "law") fd_law := F0_law
  have bl := FunD.bindsA (ps := ["_law_script"]) FL_law fun _ _ _ _ _ _ us hl => match us, hl with | [_], _ => rfl
  refine ⟨_, fun s v => bl s [v] rfl, fun base _ _ => ?_⟩
  have x0 : ExP K mg "NoFraction" Cx0 := ⟨xi_Cx0, PySem.W.mg_of X G aC_Cx0, kp_Cx0⟩
  have x1 : IniE l.prog w K mg "BadForm" Cx1 _ ["part"] := ⟨EC_Cx1, ⟨_, BadForm_ini (of_decide_eq_true ih_Cx1.dfl) EC_Cx1 IC_Cx1⟩, (fun f h => by
      obtain rfl := List.mem_singleton.mp h
      exact nf_Cx1)⟩
  have x2 : IniE l.prog w K mg "Unfit" Cx2 _ ["at"] := ⟨EC_Cx2, ⟨_, Unfit_ini dz_Cx2 EC_Cx2 IC_Cx2⟩, (fun f h => by
      obtain rfl := List.mem_singleton.mp h
      exact nf_Cx2)⟩
  have x3 : ExP K mg "NoMatrix" Cx3 := ⟨xi_Cx3, PySem.W.mg_of X G aC_Cx3, kp_Cx3⟩
  have x4 : ExP K mg "NoSeries" Cx4 := ⟨xi_Cx4, PySem.W.mg_of X G aC_Cx4, kp_Cx4⟩
  have x5 : IniE l.prog w K mg "NotStill" Cx5 _ ["paper"] := ⟨EC_Cx5, ⟨_, NotStill_ini (of_decide_eq_true ih_Cx5.dfl) EC_Cx5 IC_Cx5⟩, (fun f h => by
      obtain rfl := List.mem_singleton.mp h
      exact nf_Cx5)⟩
  have x6 : IniE l.prog w K mg "TooSlow" Cx6 _ ["many"] := ⟨EC_Cx6, ⟨_, TooSlow_ini (of_decide_eq_true ih_Cx6.dfl) EC_Cx6 IC_Cx6⟩, (fun f h => by
      obtain rfl := List.mem_singleton.mp h
      exact nf_Cx6)⟩
  have x7 : IniE l.prog w K mg "BadNet" Cx7 _ ["part", "at"] := ⟨EC_Cx7, ⟨_, BadNet_ini nA dz_BN EC_Cx7 IC_Cx7⟩, (fun f h => by
      rcases List.mem_cons.mp h with rfl | h
      · exact nf_Cx7
      · obtain rfl := List.mem_singleton.mp h
        exact nA)⟩
  have x8 : ExP K mg "BadState" Cx8 := ⟨xi_Cx8, PySem.W.mg_of X G aC_Cx8, kp_Cx8⟩
  have x9 : IniE l.prog w K mg "NoTurn" Cx9 _ ["many"] := ⟨EC_Cx9, ⟨_, NoTurn_ini (of_decide_eq_true ih_Cx9.dfl) EC_Cx9 IC_Cx9⟩, (fun f h => by
      obtain rfl := List.mem_singleton.mp h
      exact nf_Cx9)⟩
  have x10 : ExP K mg "NoWords" Cx10 := ⟨xi_Cx10, PySem.W.mg_of X G aC_Cx10, kp_Cx10⟩
  have x11 : IniE l.prog w K mg "TooMany" Cx11 _ ["many"] := ⟨EC_Cx11, ⟨_, TooMany_ini (of_decide_eq_true ih_Cx11.dfl) EC_Cx11 IC_Cx11⟩, (fun f h => by
      obtain rfl := List.mem_singleton.mp h
      exact nf_Cx11)⟩
  have x12 : ExP K mg "NoState" Cx12 := ⟨xi_Cx12, PySem.W.mg_of X G aC_Cx12, kp_Cx12⟩
  have x13 : IniE l.prog w K mg "NotFree" Cx13 _ ["row"] := ⟨EC_Cx13, ⟨_, NotFree_ini (of_decide_eq_true ih_Cx13.dfl) EC_Cx13 IC_Cx13⟩, (fun f h => by
      obtain rfl := List.mem_singleton.mp h
      exact nf_Cx13)⟩
  have x14 : ExP K mg "NoChoice" Cx14 := ⟨xi_Cx14, PySem.W.mg_of X G aC_Cx14, kp_Cx14⟩
  have x15 : IniE l.prog w K mg "NoText" Cx15 _ ["line"] := ⟨EC_Cx15, ⟨_, NoText_ini dz_Cx15 EC_Cx15 IC_Cx15⟩, (fun f h => by
      obtain rfl := List.mem_singleton.mp h
      exact nf_Cx15)⟩
  have x16 : ExP K mg "NoLine" Cx16 := ⟨xi_Cx16, PySem.W.mg_of X G aC_Cx16, kp_Cx16⟩
  have x17 : IniE l.prog w K mg "NoName" Cx17 _ ["name"] := ⟨EC_Cx17, ⟨_, NoName_ini (of_decide_eq_true ih_Cx17.dfl) EC_Cx17 IC_Cx17⟩, (fun f h => by
      obtain rfl := List.mem_singleton.mp h
      exact nf_Cx17)⟩
  have xE : ExP K mg "EchoError" CE := ⟨xi_CE, PySem.W.mg_of X G aC_CE, kp_CE⟩
  have T0 : Tbl K mg (fun i => ([Cx0, Cx1, Cx2, Cx3, Cx4, Cx5, Cx6, Cx7, Cx8, Cx9, Cx10, Cx11, Cx12, Cx13, Cx14, Cx15, Cx16, Cx17] : List Addr).getD i 0) := ⟨(fun i x h => by
      match i, h with
      | 0, h =>
        cases h
        exact PySem.W.mg_of X G aC_Cx0
      | 1, h =>
        cases h
        exact PySem.W.mg_of X G aC_Cx1
      | 2, h =>
        cases h
        exact PySem.W.mg_of X G aC_Cx2
      | 3, h =>
        cases h
        exact PySem.W.mg_of X G aC_Cx3
      | 4, h =>
        cases h
        exact PySem.W.mg_of X G aC_Cx4
      | 5, h =>
        cases h
        exact PySem.W.mg_of X G aC_Cx5
      | 6, h =>
        cases h
        exact PySem.W.mg_of X G aC_Cx6
      | 7, h =>
        cases h
        exact PySem.W.mg_of X G aC_Cx7
      | 8, h =>
        cases h
        exact PySem.W.mg_of X G aC_Cx8
      | 9, h =>
        cases h
        exact PySem.W.mg_of X G aC_Cx9
      | 10, h =>
        cases h
        exact PySem.W.mg_of X G aC_Cx10
      | 11, h =>
        cases h
        exact PySem.W.mg_of X G aC_Cx11
      | 12, h =>
        cases h
        exact PySem.W.mg_of X G aC_Cx12
      | 13, h =>
        cases h
        exact PySem.W.mg_of X G aC_Cx13
      | 14, h =>
        cases h
        exact PySem.W.mg_of X G aC_Cx14
      | 15, h =>
        cases h
        exact PySem.W.mg_of X G aC_Cx15
      | 16, h =>
        cases h
        exact PySem.W.mg_of X G aC_Cx16
      | 17, h =>
        cases h
        exact PySem.W.mg_of X G aC_Cx17
      | i + 18, h => cases h), fun i j hi hj => kitAll_ok kt hi hj⟩
  have TT : Errs10 l.prog w K mg (fun i => ([Cx0, Cx1, Cx2, Cx3, Cx4, Cx5, Cx6, Cx7, Cx8, Cx9, Cx10, Cx11, Cx12, Cx13, Cx14, Cx15, Cx16, Cx17] : List Addr).getD i 0) CE := ⟨T0, (fun i h => by
      match i, h with
      | 0, _ => exact ⟨ga_Cx0, gg_Cx0, ex_Cx0, hd_Cx0, ha_Cx0, hn_Cx0, ht_Cx0, hm_Cx0⟩
      | 1, _ => exact XC_Cx1
      | 2, _ => exact XC_Cx2
      | 3, _ => exact ⟨ga_Cx3, gg_Cx3, ex_Cx3, hd_Cx3, ha_Cx3, hn_Cx3, ht_Cx3, hm_Cx3⟩
      | 4, _ => exact ⟨ga_Cx4, gg_Cx4, ex_Cx4, hd_Cx4, ha_Cx4, hn_Cx4, ht_Cx4, hm_Cx4⟩
      | 5, _ => exact XC_Cx5
      | 6, _ => exact XC_Cx6
      | 7, _ => exact XC_Cx7
      | 8, _ => exact ⟨ga_Cx8, gg_Cx8, ex_Cx8, hd_Cx8, ha_Cx8, hn_Cx8, ht_Cx8, hm_Cx8⟩
      | 9, _ => exact XC_Cx9
      | 10, _ => exact ⟨ga_Cx10, gg_Cx10, ex_Cx10, hd_Cx10, ha_Cx10, hn_Cx10, ht_Cx10, hm_Cx10⟩
      | 11, _ => exact XC_Cx11
      | 12, _ => exact ⟨ga_Cx12, gg_Cx12, ex_Cx12, hd_Cx12, ha_Cx12, hn_Cx12, ht_Cx12, hm_Cx12⟩
      | 13, _ => exact XC_Cx13
      | 14, _ => exact ⟨ga_Cx14, gg_Cx14, ex_Cx14, hd_Cx14, ha_Cx14, hn_Cx14, ht_Cx14, hm_Cx14⟩
      | 15, _ => exact XC_Cx15
      | 16, _ => exact ⟨ga_Cx16, gg_Cx16, ex_Cx16, hd_Cx16, ha_Cx16, hn_Cx16, ht_Cx16, hm_Cx16⟩
      | 17, _ => exact XC_Cx17
      | i + 18, h => exact absurd h (by omega)), x0, x3, x4, x8, x10, x12, x14, x16, x1, x2, x6, x9, x11, x13, x15, x17, x5, x7, xE, ⟨ga_CE, gg_CE, ex_CE, hd_CE, ha_CE, hn_CE, ht_CE, hm_CE⟩, fun i hi => kitC_ok ktE hi, fun i hi => kitC_ok ktA hi, fun i hi => kitA_ok ktV hi, k2, k3, PySem.W.mg_none_of X G z_A⟩
  have c__law_cell_at : Cal l.prog w K mg base 1 "_law_cell_at" ["_law_script", "_law_k"] _ := ⟨_, _, PySem.W.mg_of X G a__law_cell_at, k__law_cell_at, b__law_cell_at, ok_cell (k := 0) F__law_cell_at z.len⟩
  have c__law_well : Cal l.prog w K mg base 1 "_law_well" ["_law_cell"] _ := ⟨_, _, PySem.W.mg_of X G a__law_well, k__law_well, b__law_well, ok_well (k := 0) F__law_well z.int⟩
  have c__law_draw : Cal l.prog w K mg base 1 "_law_draw" ["_law_well_here", "_law_much"] _ := ⟨_, _, PySem.W.mg_of X G a__law_draw, k__law_draw, b__law_draw, ok_draw (k := 0) F__law_draw⟩
  have c__law_marks : Cal l.prog w K mg base 1 "_law_marks" ["_law_e"] _ := ⟨_, _, PySem.W.mg_of X G a__law_marks, k__law_marks, b__law_marks, ok__law_marks (k := 0) F__law_marks z T0⟩
  have c__law_made : Cal l.prog w K mg base 1 "_law_made" ["_law_portion", "_law_one", "_law_two", "_law_sheet"] _ := ⟨_, _, PySem.W.mg_of X G a__law_made, k__law_made, b__law_made, ok__law_made (k := 0) F__law_made TT⟩
  have c__law_fields : Cal l.prog w K mg base 1 "_law_fields" ["_law_portion", "_law_one", "_law_two", "_law_sheet"] _ := ⟨_, _, PySem.W.mg_of X G a__law_fields, k__law_fields, b__law_fields, ok__law_fields (k := 0) F__law_fields TT⟩
  exact ok_law F_law z TT c__law_cell_at c__law_well c__law_draw c__law_marks c__law_made c__law_fields

end E1

open PySem PySem.W PySem.Calls PyProof.Rows
set_option maxRecDepth 100000 in
set_option maxHeartbeats 0 in
theorem PySem.Challenge.cw_echobound_k10_refusals_made_holds : PySem.Challenge.rw_echobound_k10_refusals_made.Holds := by
  w_on; o_law
  refine HandSHeadRun.head_any (r := OpenLaw.row PySem.Challenge.rw_echobound_k10_refusals_made) (q := HX.qv) (H := HX.hk) (ob := HX.ob) (M := 4811) (loose := HX.names) (d := HandSHeadRun.topDef (OpenLaw.row PySem.Challenge.rw_echobound_k10_refusals_made).prog 27) (kwd := []) HX.ob_eq (by kernel_rfl) (fun s => by kernel_rfl) HX.run (by kernel_rfl) (by kernel_rfl) (by kernel_rfl) (by rfl) (by first | assumption | decide +kernel) (by decide +kernel) ⟨rfl, rfl, rfl, rfl, rfl, by decide +kernel⟩ ?hw ?hc
  case hw => w_witness2
  case hc =>
    refine L2.walk_ofE (l := PySem.Challenge.rw_echobound_k10_refusals_made) (n := 63) (k := 2) (x := "_law_script") (CX := L2.CX0) rfl (by decide) (by kernel_rfl) ⟨rfl, by decide, by decide⟩ ?F (fun _ _ _ _ z => z)
    intro w mg fa h Y G hmg0
    obtain ⟨K, KX, c⟩ := Y
    have hmg : mg ("law" : PySem.Str) = some (.ref fa) := by
      have e : (HandSHeadRun.topDef (OpenLaw.row PySem.Challenge.rw_echobound_k10_refusals_made).prog 27).name = ("law" : PySem.Str) := by kernel_rfl
      rw [← e]
      exact hmg0
    obtain ⟨fd, hb, hF⟩ := E1.all_mk (l := PySem.Challenge.rw_echobound_k10_refusals_made) rfl rfl rfl rfl rfl rfl rfl rfl rfl rfl rfl rfl rfl rfl rfl rfl rfl rfl rfl KX G hmg (by rfl) (by first | rfl | decide +kernel) c
    exact ⟨K, fd, E1.spLaw K, KX, hb, fun H a ns hl _ hS => ⟨a, ns, rfl, hS, hl, fun _ => rfl⟩, hF⟩
