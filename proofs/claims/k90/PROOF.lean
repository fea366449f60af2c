import PyProof.Rows.All
import Wide.All
import OpenK.AllK
import Wide.FinOn
import HandS.Codes
import HandS.ForMost
import HandS.Wide
import HandS.Zip
import HandS.IsInst
import HandS.Defaults
import HandS.Style
import HandS.ForExc
import HandS.Walk
import HandS.More
import HandS.CallLocal
import HandS.FStr
import HandS.ExcField
import HandS.ExcIs
import KE.KExcSuper
import KE.KExcInit
import KE.KExcIs
import HandS.Lambda
import HandS.Small
import HandS.StrMore
import HandS.Text
import HandS.Iter
import KE.KxField
import OpenK.KEqL
import HandS.Flow
import KE.IntTextText
import KE.IntTextLaws
import HandS.TupMul
import HandS.MakeKw
import KE.RegKSuper
import KE.RegKIsAll
import KE.RegKTryMore
import KE.KNestM
import HandS.EndTab
import PySem.Challenge.RW_echobound_k90_numbers_and_ways_as_texts
set_option Elab.async false
set_option linter.all false
set_option maxRecDepth 100000
set_option maxHeartbeats 4000000
namespace PySem
namespace ErrX
open PySem.W PySem.Calls PyProof.Rows PySem.HandSPX
abbrev bmA : List Value := [.type "ArithmeticError", .type "Exception", .type "BaseException", .type "object"]
/-- what the written part says of an error class under ArithmeticError -/
structure ErrC (K : Frag) (mg : Str → Option Value) (x : Str) (C : Addr) : Prop where
  gC : mg x = some (.ref C)
  ei : excInitIn K C bmA "ArithmeticError.__new__" = true
  eo : excOver K C bmA = true
  sa : findIn K (.ref C) "__setattr__" = some (some (.builtin "object.__setattr__"))
  ga : findIn K (.ref C) "__getattribute__" = some (some (.builtin "BaseException.__getattribute__"))
  gg : findIn K (.ref C) "__getattr__" = some none
  kC : keepIn K (.ref C) = true
  exC : subIn K (.ref C) (.type "BaseException") = some true
  tyC : typeIn K (.ref C) = some (.type "type")
  hdC : hasDictIn K C = true
/-- its __init__: super().__init__(f'..'), then one field of the same name as the parameter -/
structure IniC (prog : Program) (K : Frag) (mg : Str → Option Value) (C fI cc : Addr) (qual fld : Str) (st : Stmt) (dV : Value) : Prop where
  iC : findIn K (.ref C) "__init__" = some (some (.ref fI))
  tC : typeIn K (.ref fI) = some (.type "function")
  fn : ∃ (oc : Value) (od : Option Addr) (kV doc pm : Value) (an : Option Addr) (cda : Addr) (ct : Value) (osl : Array (Option Value)),
    K.lookup fI = some ⟨oc, od, .func (ksFn "__init__" qual (L2.defArgs st) (L2.defBody st) (L2.defScope st) dV kV doc pm an (.ref cda) ct cc), osl⟩ ∧ codeIn K (.ref cda) qual = true ∧
    ∃ (ccl : Value) (cdd : Option Addr) (vs : Array Value) (ccs : Array (Option Value)) (file : Str) (tf : Tok), K.lookup cda = some ⟨ccl, cdd, .fields vs, ccs⟩ ∧ vs[2]? = some (.str file tf) ∧ ((prog.main.file : Str) == file) = true
  cell : ∃ (cl : Value) (cld : Option Addr) (csl : Array (Option Value)), K.lookup cc = some ⟨cl, cld, .cell (some (.ref C)), csl⟩
  noF : findIn K (.ref C) fld = some none
  sup : ks_superIn K C C "__init__" = some (some (.builtin "ArithmeticError.__init__"))
  subA : subIn K (.ref C) (.type "ArithmeticError") = some true
  slf : mroIn K C (.ref C) = some true
  th : nsIn K cStatics "thirdparty.any" = some none
  msup : mg "super" = none
  top : (prog.main.scope.names.lookup ("super" : Str)).isSome = false
/-- the parts of the text -/
inductive FP (fld : Str) : Expr → Prop
  | c {x : Str} {j : Nat} {pos : Pos} (h : x.length ≤ 1000) : FP fld (.Constant (.str x) j pos)
  | f {p q : Pos} : FP fld (.FormattedValue (.Name fld p) (-1) none q)
/-- a value that is written as a text of at most a thousand signs -/
def FmtOk (v : Value) : Prop := (∃ y t, v = .str y t ∧ y.length ≤ 1000) ∨ ∃ i t, v = .int i t ∧ i.natAbs.log2 < 1920 ∧ (toString i : String).length ≤ 1000
section
variable {prog : Program} {w : World} {A : Around} {E : Value → Shared → Prop} {R : Result → Shared → Prop} {s : Shared} {K : Frag} {mg mb : Str → Option Value} {C fI cc : Addr} {qual fld : Str} {st : Stmt}
theorem joins_ok {env : Env} {m : Str → Option Value} {v : Value} (hk : env.scope.kind = .function) (hl : env.kindOf fld = some .local) (hd : (fld == ("__debug__" : Str)) = false) (hv : m fld = some v) (fv : FmtOk v) :
    ∀ (es : List Expr) (acc : Str) (s : Shared) (Q : Str → Shared → Prop), (∀ e ∈ es, FP fld e) → acc.length + 1000 * es.length ≤ 100000 → s.heap.Ns env.locals m →
      (∀ out tk, out.length ≤ 100000 → Q out { s with toks := tk }) → Joins (model prog w) A E (evalEach es env) acc Q s
  | [], acc, s, Q, _, hz, _, hq => by
    have e0 : evalEach [] env = [] := by first | rfl | simp [evalEach]
    rw [e0]
    have := hq acc s.toks (by simpa using hz)
    exact this
  | e :: es, acc, s, Q, hp, hz, hn, hq => by
    have e0 : evalEach (e :: es) env = eval e env :: evalEach es env := by first | rfl | simp [evalEach]
    rw [e0]
    have hp' : ∀ e ∈ es, FP fld e := fun e h => hp e (List.mem_cons_of_mem _ h)
    rw [List.length_cons] at hz
    have step : ∀ (y : Str) (t : Tok) (tk : Nat), y.length ≤ 1000 → ∃ y' t', Value.str y t = .str y' t' ∧ (acc ++ y').length ≤ sizeLine ∧ Joins (model prog w) A E (evalEach es env) (acc ++ y') Q { s with toks := tk } := fun y t tk hy => by
      have hlen : (acc ++ y).length = acc.length + y.length := by first | exact Str.length_append _ _ | simp
      refine ⟨y, t, rfl, ?_, ?_⟩
      · rw [hlen, sizeLine_eq]
        omega
      · exact joins_ok hk hl hd hv fv es (acc ++ y) { s with toks := tk } Q hp' (by rw [hlen]; omega) hn fun out tk' ho => hq out tk' ho
    show wpAny _ _ (eval e env) _ _ _
    cases hp e List.mem_cons_self with
    | c h => exact Calls.Constant_str (step _ _ _ h)
    | f =>
      refine wpAny_FormattedValue_plain (wpAny_Name (wpAny_loadName_local hk hl hn hv ?_) hd)
      rcases fv with ⟨y, t, rfl, hy⟩ | ⟨i, t, rfl, hi, hy⟩
      · exact wpAny_formatField_str (step y t s.toks hy) (step y _ _ hy) (by rw [sizeLine_eq]; omega)
      · exact wpAny_formatField_int hi (step _ _ _ (by rw [ofString_length]; exact hy))
end
end ErrX
end PySem

namespace PySem
namespace ErrX
open PySem.W PySem.Calls PyProof.Rows PySem.HandSPX
/-- a dict with one text for its key -/
theorem one_key {h : Heap} {dx : Addr} {fld : Str} {hs : Int} {tk : Tok} {v : Value} (e : h.get? dx = some (dictOf [⟨hs, .str fld tk, v⟩] 1)) : h.Ns1 dx (fun y => if y = fld then some v else none) := by
  refine ⟨_, _, _, e, rfl, fun d hd => ?_, List.pairwise_singleton _ _, fun y => ?_⟩
  · obtain rfl : d = ⟨hs, .str fld tk, v⟩ := by simpa using hd
    exact ⟨fld, tk, rfl⟩
  · by_cases z : y = fld
    · subst z
      simp [nsFind, findBy, Value.isStr]
    · simp [nsFind, findBy, Value.isStr, z, Ne.symm z]
/-- what __init__ leaves of a fresh error at x -/
structure IniEnd (h h' : Heap) (x C dx : Addr) (fld : Str) (v : Value) : Prop where
  keep : ∀ b o, b ≠ x → h.get? b = some o → h'.get? b = some o
  obj : ∃ t1 : Addr, h'.get? x = some { cls := .ref C, dict := some dx, data := .fields #[.ref t1, .none, .none, .none, .bool false, .none] }
  dbig : h.objs.size ≤ dx
  dne : dx ≠ x
  ns : h'.Ns1 dx (fun y => if y = fld then some v else none)
section
variable {prog : Program} {w : World} {A : Around} {E : Value → Shared → Prop} {R : Result → Shared → Prop} {s : Shared} {K : Frag} {mg : Str → Option Value} {C fI cc : Addr} {nm qual fld : Str} {st : Stmt}
abbrev iniScope (fld : Str) : Scope := { kind := .function, names := [(Str.ofString "self", .local), (fld, .local), (Str.ofString "__class__", .free), (Str.ofString "super", .globalImplicit)], isGenerator := false, isCoroutine := false, more := [] }
abbrev iniBody (fld : Str) (v1 v2 : Expr) (rest : List Expr) (p1 p2 p3 p4 p5 p6 q1 q2 q3 q4 : Pos) : List Stmt :=
  [.Expr (.Call (.Attribute (.Call (.Name "super" p1) [] [] p2) "__init__" p3) [.JoinedStr (v1 :: v2 :: rest) p4] [] p5) p6, .Assign [.Attribute (.Name "self" q1) fld q2] (.Name fld q3) q4]
/-- a field's name that is none of these -/
structure FldOk (fld : Str) : Prop where
  f1 : (fld == Str.ofString "self") = false
  f2 : (Str.ofString "__class__" == fld) = false
  f3 : (Str.ofString "super" == fld) = false
  f4 : (Str.ofString "self" == fld) = false
  f5 : (fld == Str.ofString "__debug__") = false
section
variable {fld : Str}
theorem lk_self : (iniScope fld).names.lookup (Str.ofString "self") = some .local := by
  rw [List.lookup_cons, beq_self_eq_true]
theorem lk_fld (O : FldOk fld) : (iniScope fld).names.lookup fld = some .local := by
  rw [List.lookup_cons, O.f1, List.lookup_cons, beq_self_eq_true]
theorem lk_cls (O : FldOk fld) : (iniScope fld).names.lookup (Str.ofString "__class__") = some .free := by
  rw [List.lookup_cons, show (Str.ofString "__class__" == Str.ofString "self") = false by decide +kernel, List.lookup_cons, O.f2, List.lookup_cons, beq_self_eq_true]
theorem lk_sup (O : FldOk fld) : (iniScope fld).names.lookup (Str.ofString "super") = some .globalImplicit := by
  rw [List.lookup_cons, show (Str.ofString "super" == Str.ofString "self") = false by decide +kernel, List.lookup_cons, O.f3, List.lookup_cons, show (Str.ofString "super" == Str.ofString "__class__") = false by decide +kernel, List.lookup_cons, beq_self_eq_true]
end
theorem err_init {s1 p1 p2 p3 p4 p5 p6 q1 q2 q3 q4 : Pos} {v1 v2 : Expr} {rest : List Expr} (EC : ErrC K mg nm C) {dV : Value} (IC : IniC prog K mg C fI cc qual fld st dV) (O : FldOk fld)
    (hbd : L2.defBody st = iniBody fld v1 v2 rest p1 p2 p3 p4 p5 p6 q1 q2 q3 q4)
    (hpar : ((L2.defArgs st).posonlyargs ++ (L2.defArgs st).args).head? = some { arg := "self", annotation := none, pos := s1 })
    (hps : ∀ e ∈ v1 :: v2 :: rest, FP fld e) (hlen : rest.length ≤ 20) (hpos : (p3.endLine == p5.line) = true) (hsc : L2.defScope st = iniScope fld)
    {x t0 : Addr} {v : Value} (MO : L2.Mod K mg s.heap) (hx : s.heap.get? x = some (excO C t0)) (hnx : K.lookup x = none) (hroom : A.depth < recursionLimit) (fv : FmtOk v)
    (hbind : ∀ kV doc pm an cda ct, BindsTo s (ksFn "__init__" qual (L2.defArgs st) (L2.defBody st) (L2.defScope st) dV kV doc pm an (.ref cda) ct cc) ⟨[.ref x, v], []⟩ [(Str.ofString "self", .ref x), (fld, v)])
    (hq : ∀ h' tk dx, IniEnd s.heap h' x C dx fld v → R (.ok (.ret .none)) { s with heap := h', toks := tk }) :
    codeAny (model prog w) A (.call (.ref fI) ⟨[.ref x, v], []⟩) R s := by
  obtain ⟨oc, od, kV, doc, pm, an, cda, ct, osl, ho, hcd, ccl, cdd, vs, ccs, file, tf, hcda, hvs, hfile⟩ := IC.fn
  have X := MO.kin
  have hb := hbind kV doc pm an cda ct
  rw [hbd, hsc] at ho hb
  obtain ⟨cl, cld, csl, hcell⟩ := IC.cell
  obtain ⟨mb, hmb, hmb2⟩ := MO.blt
  obtain ⟨nm', N', qn, bs, bm, hdct, sn, sub, ab, col, dd, k0, k1, k2, k3, k5, hC, hT⟩ := excInit_of X EC.ei
  obtain ⟨hp, g, d, t, os⟩ := s
  refine ks_codeAny_call_defAt (fd := ksFn "__init__" qual (L2.defArgs st) (iniBody fld v1 v2 rest p1 p2 p3 p4 p5 p6 q1 q2 q3 q4) (iniScope fld) dV kV doc pm an (.ref cda) ct cc) (body := iniBody fld v1 v2 rest p1 p2 p3 p4 p5 p6 q1 q2 q3 q4) (binds := [(Str.ofString "self", .ref x), (fld, v)])
    hroom (X _ _ ho) rfl MO.nolimit (codeRec_of X hcd) rfl hb ?_ ?_ (fun h₁ hns k => ?_)
  · intro y hy z
    have hy' : y ∈ (iniScope fld).names := hy
    simp only [List.mem_cons, List.not_mem_nil, or_false] at hy'
    rcases hy' with rfl | rfl | rfl | rfl <;> cases z
  · intro y hy
    simp only [List.mem_cons, List.not_mem_nil, or_false] at hy
    rcases hy with rfl | rfl
    · exact lk_self
    · exact lk_fld O
  · have X₁ : K.In h₁ := X.keeps k
    have hx₁ := k _ _ hx
    have hC₁ := k _ _ hC
    have mS : (fun y => [(Str.ofString "self", Value.ref x), (fld, v)].reverse.lookup y) (Str.ofString "self") = some (.ref x) := by
      show List.lookup (Str.ofString "self") [(fld, v), (Str.ofString "self", Value.ref x)] = _
      rw [List.lookup_cons, O.f4, List.lookup_cons, beq_self_eq_true]
    have mF : (fun y => [(Str.ofString "self", Value.ref x), (fld, v)].reverse.lookup y) fld = some v := by
      show List.lookup fld [(fld, v), (Str.ofString "self", Value.ref x)] = _
      rw [List.lookup_cons, beq_self_eq_true]
    refine ks_wpAt_execs_cons (ks_wpAt_Expr_any (ks_wpAt_MethodCall (pl := (do return (← importBound (.Call (.Name "super" p1) [] [] p2) (ksEnv qual (iniScope fld) hp.objs.size fI (.ref cda) cc)).getD true)) ?_ ?_))
    rotate_left
    · rw [arm_eval_Call]
      unfold methodCall
      have e2 : ∀ env : Env, methodCallPos (methodCallForm ([Expr.JoinedStr (v1 :: v2 :: rest) p4].length + ([] : List Keyword).length) (backTo p5 (starEach [Expr.JoinedStr (v1 :: v2 :: rest) p4] env)) (backToKw p5 (keywordEach [] env))) (.Call (.Name "super" p1) [] [] p2) env p3 p5 = pure p5 := fun env => by
        show (if (!true || p3.endLine == p5.line) = true then pure p5 else _) = _
        rw [hpos]
        rfl
      rw [e2]
      rfl
    refine ks_wpAt_super_base (f := fI) (cc := cda) (lk_sup O) (lk_cls O) (by decide +kernel) rfl (X₁ _ _ ho) rfl hpar rfl (X₁ _ _ hcda) rfl hvs hfile IC.top ?_
    refine ks_loadName_global rfl (lk_sup O) (loadGlobal_builtin (MO.glob.keeps k) IC.msup (hmb.keeps k) ((hmb2 "super" (by decide)).trans (show bootBuiltins "super" = some (.type "super") by decide +kernel)) ⟨rfl, ?_⟩)
    refine wpAny_loadName_free rfl (lk_cls O) rfl ⟨_, X₁ _ _ hcell, rfl⟩ ?_
    refine wpAny_loadName_local rfl lk_self hns mS ?_
    refine ks_wpAny_isType_cls hC₁ rfl ⟨rfl, ?_⟩
    refine ks_wpAny_call_super hC₁ rfl hx₁ rfl (fun c z => by cases z) (looks_mroIn X₁ IC.slf) (fun h₂ hso k₂ => ?_)
    have X₂ : K.In h₂ := X₁.keeps k₂
    have hx₂ := k₂ _ _ hx₁
    have I₂ : W.InstAt h₂ x (excO C t0) C none := ⟨hx₂, rfl, rfl, trivial⟩
    have hsup := IC.sup
    unfold ks_superIn at hsup
    cases hc : clsIn K C with
    | none =>
      rw [hc] at hsup
      cases hsup
    | some cd =>
    rw [hc] at hsup
    refine kxs_getMethod kxs_ArithmeticError hso (looks_opaque X₂ IC.th) (l₀ := cd.mro) (fun A Q E s k q => wpAny_bind ((looks_clsIn X₂ hc) A _ E s k (wpAny_pure q))) rfl X₂ hsup (I₂.type.andThen (looks_subIn X₂ IC.subA)) (ks_ne X₂ I₂ hc) (by decide +kernel) ?_
    have k₃ : ∀ b o, h₂.get? b = some o → (h₂.push (kxs_mw "ArithmeticError.__init__" x)).get? b = some o := fun b o e => Heap.get?_push_of_some _ e
    have hu : (h₂.push (kxs_mw "ArithmeticError.__init__" x)).get? h₂.objs.size = some (kxs_mw "ArithmeticError.__init__" x) := Heap.get?_push_at rfl rfl
    have kk : ∀ b o, hp.get? b = some o → (h₂.push (kxs_mw "ArithmeticError.__init__" x)).get? b = some o := fun b o e => k₃ _ _ (k₂ _ _ (k _ _ e))
    have hns₃ : (h₂.push (kxs_mw "ArithmeticError.__init__" x)).Ns hp.objs.size (fun y => [(Str.ofString "self", Value.ref x), (fld, v)].reverse.lookup y) := by
      obtain ⟨oL, es, ep, hL, r⟩ := hns
      exact ⟨oL, es, ep, k₃ _ _ (k₂ _ _ hL), r⟩
    have hx₃ := k₃ _ _ hx₂
    have hC₃ := kk _ _ hC
    have hsz : h₂.objs.size < (h₂.push (kxs_mw "ArithmeticError.__init__" x)).objs.size := Heap.lt_size hu
    generalize h₂.push (kxs_mw "ArithmeticError.__init__" x) = h₃ at *
    refine kxs_callWith (i := "ArithmeticError.__init__") (x := x) rfl (evalArgs_plain ?_)
    refine Calls.spliced_cons (wpAny_JoinedStr (pos := p4) (joins_ok (env := callEnv (ksFn "__init__" qual (L2.defArgs st) (iniBody fld v1 v2 rest p1 p2 p3 p4 p5 p6 q1 q2 q3 q4) (iniScope fld) dV kV doc pm an (.ref cda) ct cc) hp.objs.size fI) rfl (lk_fld O) O.f5 mF fv _ Str.empty _ _ hps ?_ hns₃ fun out tk ho => ⟨by rw [sizeLine_eq]; omega, ?_⟩))
    · rw [List.length_cons, List.length_cons]
      show 0 + 1000 * (rest.length + 1 + 1) ≤ 100000
      omega
    refine Calls.spliced_nil ⟨hu, ?_⟩
    -- the library's own rules, over the heap of the call with the error itself left out
    have xL : x ≠ hp.objs.size := Nat.ne_of_lt (Heap.lt_size hx)
    have nK : ∀ a o, K.lookup a = some o → a ∉ [x] := fun a o e z => by
      rw [List.mem_singleton.mp z, hnx] at e
      cases e
    have X₀ : K.In (hideAll hp [x]) := fun a o e => hideAll_get [x] (X a o e) (nK a o e)
    have F₃ : Fr (hideAll hp [x]) hp.objs.size h₃ (fun y => [(Str.ofString "self", Value.ref x), (fld, v)].reverse.lookup y) :=
      ⟨hns₃, fun b o e => kk b o (of_hideAll [x] e), Nat.le_of_eq (hideAll_size [x] hp)⟩
    have L₂ : hp.objs.size < h₂.objs.size := by
      obtain ⟨oL, es, ep, hL, _⟩ := hns
      exact Heap.lt_size (k₂ _ _ hL)
    have ux : h₂.objs.size ≠ x := Nat.ne_of_gt (Nat.lt_trans (Heap.lt_size hx) L₂)
    have uo : (hideAll hp [x]).get? h₂.objs.size = none := by
      cases e : (hideAll hp [x]).get? h₂.objs.size with
      | none => rfl
      | some o => exact absurd (Nat.lt_trans (Heap.lt_size (of_hideAll [x] e)) L₂) (Nat.lt_irrefl _)
    have N₃ : News (hideAll hp [x]) hp.objs.size h₃ [(h₂.objs.size, kxs_mw "ArithmeticError.__init__" x), (x, excObj C t0 none .none)] := fun p hp' => by
      rcases List.mem_cons.mp hp' with rfl | hp'
      · exact ⟨hu, Nat.ne_of_gt L₂, uo⟩
      · obtain rfl := List.mem_singleton.mp hp'
        exact ⟨hx₃, xL, hideAll_none [x] (List.mem_singleton.mpr rfl)⟩
    refine kxs_call F₃ X₀ N₃ F.excBase_ArithmeticError EC.ei List.mem_cons_self (.tail ux (.head fun p z => nomatch z)) (by show 1 ≤ sizeLine; decide) fun t1 h₄ F₄ N₄ lt₄ => ?_
    have X₄ : K.In h₄ := X₀.keeps F₄.keep
    have hx₄ : h₄.get? x = some (excO C t1) := (N₄ (x, excObj C t1 none .none) (by simp)).1
    have tx : t1 ≠ x := Nat.ne_of_gt (lt₄ (x, excObj C t0 none .none) (by simp))
    refine ks_wpAt_execs_cons (ks_wpAt_Assign_Attr (wpAt_of_wpAny (wpAny_Name (wpAny_loadName_local rfl (lk_fld O) F₄.ns mF ?_) O.f5)))
    refine wpAny_Name (wpAny_loadName_local rfl lk_self F₄.ns mS ?_) (by decide +kernel)
    refine set_plain X₄ (ox := excO C t1) (od := none) ⟨hx₄, rfl, rfl, trivial⟩ EC.sa ?_
    have free : takerIn K C fld = some none := by
      rw [takerIn, IC.noF]
      rfl
    refine osa_exc0 (pre := [(t1, _), (h₂.objs.size, _)]) (post := []) F.store_ArithmeticError F₄ N₄ X₄ EC.eo free EC.hdC (fun p z => ?_) (fun p z => nomatch z) (putName_dict _ _ _ _ _ _) rfl (by show 1 ≤ 1000; decide) fun dx h₅ F₅ N₅ lt₅ => ?_
    · rcases List.mem_cons.mp z with rfl | z
      · exact tx
      · obtain rfl := List.mem_singleton.mp z
        exact ux
    refine wpAt_of_wpAny (wpAny_execs_nil ?_)
    have xd : x < dx := lt₅ (x, excObj C t1 none .none) (by simp)
    have ud : h₂.objs.size < dx := lt₅ (h₂.objs.size, kxs_mw "ArithmeticError.__init__" x) (by simp)
    exact hq h₅ _ dx ⟨fun b o hb e => F₅.keep b o (hideAll_get [x] e fun z => hb (List.mem_singleton.mp z)), ⟨t1, (N₅ (x, excObj C t1 (some dx) .none) (by simp)).1⟩, Nat.le_of_lt (Nat.lt_trans L₂ ud), Nat.ne_of_gt xd, one_key (N₅ _ List.mem_cons_self).1⟩
end
end ErrX
end PySem

namespace PySem
namespace ErrX
open PySem.W PySem.Calls PyProof.Rows PySem.HandSPX
/-- a made error with one field -/
structure Made1 (h h' : Heap) (e C d : Addr) (fld : Str) (v : Value) : Prop where
  keep : ∀ b o, h.get? b = some o → h'.get? b = some o
  new : h.objs.size ≤ e
  obj : ∃ oe vs, h'.get? e = some oe ∧ oe.cls = .ref C ∧ oe.dict = some d ∧ oe.data = .fields vs ∧ vs[1]? = some .none
  dbig : h.objs.size ≤ d
  dne : d ≠ e
  ns : h'.Ns1 d (fun y => if y = fld then some v else none)
/-- its __init__ does as it should -/
structure IniOk (prog : Program) (w : World) (K : Frag) (mg : Str → Option Value) (C fI : Addr) (fld : Str) : Prop where
  iC : findIn K (.ref C) "__init__" = some (some (.ref fI))
  tC : typeIn K (.ref fI) = some (.type "function")
  run : ∀ (A : Around) (R : Result → Shared → Prop) (s : Shared) (x t0 : Addr) (v : Value), L2.Mod K mg s.heap → s.heap.get? x = some (excO C t0) → K.lookup x = none → A.depth < recursionLimit → FmtOk v →
    (∀ h' tk dx, IniEnd s.heap h' x C dx fld v → R (.ok (.ret .none)) { s with heap := h', toks := tk }) → codeAny (model prog w) A (.call (.ref fI) ⟨[.ref x, v], []⟩) R s
section
variable {prog : Program} {w : World} {A : Around} {E : Value → Shared → Prop} {R : Result → Shared → Prop} {s : Shared} {K : Frag} {mg : Str → Option Value} {C fI : Addr} {nm fld : Str}
theorem err_made (EC : ErrC K mg nm C) (IO : IniOk prog w K mg C fI fld) {v : Value} (MO : L2.Mod K mg s.heap) (hroom : A.depth + 1 < recursionLimit) (fv : FmtOk v)
    (hq : ∀ h' tk e d, Made1 s.heap h' e C d fld v → R (.ok (.ret (.ref e))) { s with heap := h', toks := tk }) :
    codeAny (model prog w) A (.call (.ref C) ⟨[v], []⟩) R s := by
  have X := MO.kin
  obtain ⟨nm', N', qn, bs, bm, hdct, sn, sub, ab, col, dd, k0, k1, k2, k3, k5, hC, hT⟩ := excInit_of X EC.ei
  obtain ⟨hp, g, dr, tk, os⟩ := s
  have k : ∀ b o, hp.get? b = some o → ((hp.push (kdv_tup [v])).push (excO C hp.objs.size)).get? b = some o := fun b o e => Heap.get?_push_of_some _ (Heap.get?_push_of_some _ e)
  have hget : ((hp.push (kdv_tup [v])).push (excO C hp.objs.size)).get? (hp.objs.size + 1) = some (excO C hp.objs.size) := by heap_get
  have hnx : K.lookup (hp.objs.size + 1) = none := by
    cases e : K.lookup (hp.objs.size + 1) with
    | none => rfl
    | some o =>
      have z : hp.get? (hp.objs.size + 1) = some o := X _ _ e
      exact absurd (Nat.lt_of_succ_lt (Heap.lt_size z)) (Nat.lt_irrefl _)
  have MO' : L2.Mod K mg ((hp.push (kdv_tup [v])).push (excO C hp.objs.size)) := by
    obtain ⟨mb, h1, h2⟩ := MO.blt
    exact ⟨X.keeps k, MO.glob.keeps k, ⟨mb, h1.keeps k, h2⟩, MO.nolimit.keeps k⟩
  refine call_own F.excBase_ArithmeticError hT hC (looks_findIn X IO.iC) (fun self => bind_fn X self IO.tC) (by show 1 ≤ sizeLine; decide) ?_
  refine IO.run _ _ ⟨(hp.push (kdv_tup [v])).push (excO C hp.objs.size), g, dr, tk, os⟩ _ _ _ MO' hget hnx ?_ fv fun h' tk' dx ⟨k', ⟨t1, hx⟩, dn, dne, hns⟩ => ?_
  · show A.depth + 1 < recursionLimit
    exact hroom
  · have old : ∀ b o, hp.get? b = some o → h'.get? b = some o := fun b o e => k' b o (Nat.ne_of_lt (Nat.lt_succ_of_lt (Heap.lt_size e))) (k b o e)
    have z : hp.objs.size + 1 + 1 ≤ dx := by
      first
        | (simpa only [Heap.size_push] using dn)
        | exact dn
        | (have q := dn; rw [Heap.size_push, Heap.size_push] at q; exact q)
    exact ⟨rfl, hq h' tk' (hp.objs.size + 1) dx ⟨old, Nat.le_succ _, ⟨_, _, hx, rfl, rfl, rfl, rfl⟩, Nat.le_trans (Nat.le_trans (Nat.le_succ _) (Nat.le_succ _)) z, dne, hns⟩⟩
end
end ErrX
end PySem
namespace E1
open PySem PySem.Spec PyProof.Rows L2
open PySem.ErrX (ErrC IniOk FmtOk)
/-- a value that is written as a text of at most a thousand signs -/
def VFmt (v : V) : Prop := (∃ y : Str, v = .str y ∧ y.length ≤ 1000) ∨ ∃ i : Int, v = .int i ∧ i.natAbs.log2 < 1920 ∧ (toString i : String).length ≤ 1000
theorem VFmt.ok {v : V} {u : Value} (h : VFmt v) (r : RelV v u) : FmtOk u := by
  rcases h with ⟨y, rfl, hy⟩ | ⟨i, rfl, hi, hy⟩
  · obtain ⟨t, rfl⟩ := (show ∃ t, u = Value.str y t from r)
    exact .inl ⟨y, t, rfl, hy⟩
  · obtain ⟨t, rfl⟩ := (show ∃ t, u = Value.int i t from r)
    exact .inr ⟨i, t, rfl, hi, hy⟩
theorem relO_one {fld : Str} {v : V} {v' : Value} (r : RelV v v') (f : Str) : RelO (List.lookup f [(fld, v)]) (if f = fld then some v' else none) := by
  by_cases hw : f = fld
  · subst hw
    rw [if_pos rfl]
    have q : List.lookup f [(f, v)] = some v := by simp [List.lookup]
    rw [q]
    exact r
  · rw [if_neg hw]
    have qw : (f == fld) = false := by simpa using hw
    have q2 : List.lookup f [(fld, v)] = none := by simp [List.lookup, qw]
    rw [q2]
    trivial
section
variable {X : Cx} {C fI : Addr} {x fld : Str}
/-- X(e), an error with one field -/
def tMkErr (C : Addr) (fld : Str) (ta : TA) : L2.St → Hp → XK → Prop := fun σ H Q => ta σ H fun vs H1 => ∃ v, vs = [v] ∧ VFmt v ∧ ∀ d, H1 d = none → Q (.ref C) (some d) (upd H1 d (.xd [(fld, v)]))
theorem pmk_err {a : Expr} {ta : TA} {p pos : Pos} {k : Nat} (EC : ErrC X.K X.mg x C) (IO : IniOk X.prog X.w X.K X.mg C fI fld) (hr : Room k X.A) (ha : PA X [a] ta) (hg : Gl X x := by rfl) (hdb : (x == ("__debug__" : Str)) = false := by decide)
    (he : starEach (a :: []) X.env = (false, eval a X.env) :: starEach [] X.env := by rfl) (hpl : (backTo pos (starEach [] X.env)).any (·.1) = false := by rfl) :
    PMk X (.Call (.Name x p) [a] [] pos) (tMkErr C fld ta) := by
  intro pins s σ H Q I h
  refine wpAny_Call_Name_kw (ld_glob I hg EC.gC ?_ hdb)
  refine PySem.W.callWith_K (h₀ := X.base) I.ok.mod.kin EC.kC (thn (ha.run pos pins s σ H _ I h) fun us s1 hh => ?_) he hpl
  obtain ⟨vs, H1, I1, r1, v, ev, fv, q1⟩ := hh
  subst ev
  refine ⟨I1.kIn, ?_⟩
  cases r1 with
  | cons rv rn =>
    rename_i v' us'
    cases rn
    show wpAny _ _ (call (.ref C) [v']) _ _ _
    have MO : Mod X.K X.mg s1.heap := by
      obtain ⟨mb, h1, h2⟩ := I1.mod.blt
      exact ⟨I1.kIn, I1.mod.glob.keeps I1.bk, ⟨mb, h1.keeps I1.bk, h2⟩, I1.nolimit⟩
    obtain ⟨hp, g, dr, tk, os⟩ := s1
    refine wpAny_call (PySem.ErrX.err_made EC IO MO (by have := hr.dp; omega) (fv.ok rv) fun h' tk' e d M => ?_)
    show MkP X pins σ Q (.ref e) ⟨h', g, dr, tk', os⟩
    obtain ⟨oe, fv', hoe, hc, hd, hdat, h1⟩ := M.obj
    have hns := M.ns
    obtain ⟨G', g1, g2⟩ := restrict h' fun b => decide (b ≠ e)
    have gk : ∀ b, b ≠ e → G'.get? b = h'.get? b := fun b hb => g1 b (decide_eq_true hb)
    have ge : G'.get? e = none := g2 e (by simp)
    have old : ∀ b o, hp.get? b = some o → G'.get? b = some o := fun b o q => (gk b (Nat.ne_of_lt (Nat.lt_of_lt_of_le (Heap.lt_size q) M.new))).trans (M.keep b o q)
    have ob : ObjOk X.prog X.w (upd H1 d (.xd [(fld, v)])) G' d (.xd [(fld, v)]) :=
      ⟨_, hns.at (fun o q => (gk d M.dne).trans q), fun f => relO_one rv f⟩
    have J : Inv X pins σ (upd H1 d (.xd [(fld, v)])) ⟨G', g, dr, tk', os⟩ := I1.laid (t' := tk') old M.dbig ob
    refine ⟨e, oe, fv', ⟨G', g, dr, tk', os⟩, _, .ref C, some d, rfl, J, fun b o q => ?_, ge, hoe, ⟨hc, hd⟩, hdat, h1, ?_, rfl, I1.bare, raises_own EC.exC EC.tyC, q1 d (I1.hok.fresh M.dbig)⟩
    · by_cases hb : b = e
      · have q' : G'.get? b = some o := q
        rw [hb, ge] at q'; cases q'
      · exact (gk b hb).symm.trans q
    · rw [upd_ne (Ne.symm M.dne)]
      exact I1.hok.fresh M.new
/-- raise X(e) -/
def tRaiseErr (C : Addr) (fld : Str) (W : WX) (ta : TA) : TS := fun _ σ H => tMkErr C fld ta σ H fun cls d H' => W cls d σ H'
theorem ps_raiseErr {a : Expr} {ta : TA} {W : WX} {p pos pos2 : Pos} {k : Nat} (hc : X.calm = true) (EC : ErrC X.K X.mg x C) (IO : IniOk X.prog X.w X.K X.mg C fI fld) (hr : Room k X.A) (tk : Takes X W) (ha : PA X [a] ta) (hg : Gl X x := by rfl) (hdb : (x == ("__debug__" : Str)) = false := by decide)
    (he : starEach (a :: []) X.env = (false, eval a X.env) :: starEach [] X.env := by rfl) (hpl : (backTo pos (starEach [] X.env)).any (·.1) = false := by rfl) :
    PS X (.Raise (some (.Call (.Name x p) [a] [] pos)) none pos2) (tRaiseErr C fld W ta) := ps_raise hc tk (pmk_err EC IO hr ha hg hdb he hpl)
/-- e.f of a caught error -/
theorem ErrC.xf {K : PySem.W.Frag} {mg : Str → Option Value} (EC : ErrC K mg x C) : XfC K C := ⟨EC.ga, EC.gg, EC.exC, EC.hdC⟩
end
end E1

namespace E1
open PySem PySem.Spec PyProof.Rows L2
open PySem.ErrX (ErrC IniOk FmtOk)
/-- isinstance(e, c), e the error that the suite holds, its class an own one -/
def rIsX (K : PySem.W.Frag) (a : Addr) (cls : Value) (d : Option Addr) : List V → Hp → VK → Prop := fun xs H Q => ∃ (D : Addr) (c : V) (cv : Value) (b : Bool), cls = .ref D ∧ ExcC K D ∧ xs = [.ref a, c] ∧ (∀ u, RelV c u → u = cv) ∧
  (∀ dd, d = some dd → ∃ fs, H dd = some (.xd fs)) ∧ PySem.W.kitOne K (.ref D) cv = some b ∧ Q (.bl b) H
theorem call_isX {X : Cx} {a : Addr} {cls : Value} {d : Option Addr} {oe : Obj} {pn : List (Addr × Obj)} (hz : Zc cls d oe) (hf : ∃ vs, oe.data = .fields vs) : CallR (X.suite a ((a, oe) :: pn)) (.builtin "isinstance") (rIsX X.K a cls d) := by
  intro pins s σ H xs us Q I r ⟨D, c, cv, b, hcls, C, hxs, only, hdd, yes, q⟩
  subst hcls hxs
  match d, hz, hdd, us, r with
  | none, hz, _, us, r => exact call_isE C hz hf pins s σ H _ us Q I r ⟨c, cv, b, rfl, only, yes, q⟩
  | some dd, ⟨kind, own⟩, hdd, [x, u], .cons hx (.cons hu .nil) =>
    cases hx
    cases only u hu
    obtain ⟨fs, tracked⟩ := hdd dd rfl
    obtain ⟨m, space, _⟩ := show ObjOk X.prog X.w H s.heap dd (.xd fs) from I.hok dd _ tracked
    obtain ⟨dict, lies, _⟩ := lookIn_ns space
    obtain ⟨parts, hparts⟩ := hf
    have held := (I.pin (a, oe) (by simp)).1
    have inst : PySem.W.InstAt s.heap a oe D (some dict) := by
      refine ⟨held, kind, ?_, ?_⟩
      · obtain ⟨_, _, dat, _⟩ := oe
        dsimp only at hparts ⊢
        rw [hparts]
        rfl
      · simpa [own] using lies
    have known : (PySem.W.clsIn X.K D).isSome = true := Option.isSome_iff_exists.mpr ((PySem.W.any_some C.hd).imp fun _ z => z.1)
    exact PySem.W.kia_one (PySem.W.kitx_exc known C.hg C.hk C.hs C.ha C.hn C.ht C.hm) I.kIn inst yes (fun z => nomatch z) fun tk => ⟨.bl b, H, I.kept (t' := tk) fun _ _ z => z, rfl, q⟩
/-! ### calls of defs that may raise -/
def CalX (P : Program) (w : World) (K : PySem.W.Frag) (mg : Str → Option Value) (base : Heap) (k : Nat) (x : Str) (ps : List Str) (dvs : List V) (sp : Sp) : Prop :=
  ∃ (f : Addr) (fd : FuncData) (ds : List Value), mg x = some (.ref f) ∧ PySem.W.keepIn K (.ref f) = true ∧ Vals dvs ds ∧ Binds K fd ps ds ∧ FnOk P w K mg base (L2.CX P w) k f fd ps sp
theorem pe_calx {X : Cx} {k j : Nat} {x : Str} {ps : List Str} {dvs : List V} {sp : Sp} {e : Expr} {es : List Expr} {t : TA} {p pos : Pos} (c : CalX X.prog X.w X.K X.mg X.base k x ps dvs sp) (hr : Room j X.A) (ha : PA X (e :: es) t) (hle : k ≤ j := by decide) (hg : Gl X x := by rfl)
    (hdb : (x == ("__debug__" : Str)) = false := by decide) (he : starEach (e :: es) X.env = (false, eval e X.env) :: starEach es X.env := by rfl) (hpl : (backTo pos (starEach es X.env)).any (·.1) = false := by rfl) :
    PE X (.Call (.Name x p) (e :: es) [] pos) (tCall sp dvs E0 t) := by
  obtain ⟨f, fd, ds, h1, h2, hd, h3, h4⟩ := c
  exact pe_call h4 (hr.mono hle) hg h1 h2 h3 hd passL ha hdb he hpl
def CalXK (P : Program) (w : World) (K : PySem.W.Frag) (mg : Str → Option Value) (base : Heap) (k : Nat) (x : Str) (ps : List Str) (n : Nat) (ks : List Str) (gV : List V → List V → List V) (sp : Sp) : Prop :=
  ∃ (f : Addr) (fd : FuncData) (g : List Value → List Value → List Value), mg x = some (.ref f) ∧ PySem.W.keepIn K (.ref f) = true ∧ KBn K fd ps n ks g gV ∧ FnOk P w K mg base (L2.CX P w) k f fd ps sp
theorem pe_calkx0 {X : Cx} {k j : Nat} {x : Str} {ps ks : List Str} {gV : List V → List V → List V} {sp : Sp} {kws : List Keyword} {tk : TA} {p pos : Pos} (c : CalXK X.prog X.w X.K X.mg X.base k x ps 0 ks gV sp) (hr : Room j X.A)
    (hkw : PK X kws tk) (hle : k ≤ j := by decide) (hg : Gl X x := by rfl) (hall : (backToKw pos (keywordEach kws X.env)).all (·.1.isSome) = true := by rfl) (hks : (backToKw pos (keywordEach kws X.env)).filterMap (·.1) = ks := by rfl)
    (hdb : (x == ("__debug__" : Str)) = false := by decide)
    (hpl : ((backTo pos (starEach [] X.env)).any (·.1) || (backToKw pos (keywordEach kws X.env)).any (·.1.isNone)) = false := by rfl) :
    PE X (.Call (.Name x p) [] kws pos) (tCallN 0 ks.length sp gV E0 tNil tk) := by
  obtain ⟨f, fd, g, h1, h2, h3, h4⟩ := c
  refine ⟨fun pins s σ H Q I h => ?_⟩
  refine wpAny_Call_Name_kw (ld_glob I hg h1 ?_ hdb)
  refine PySem.W.callWith_KW0 (h₀ := X.base) I.ok.mod.kin h2 hall (thn (hkw.run pos pins s σ H _ I h) fun ws s2 ⟨zs, H2, I2, rz, l1, l2, q2⟩ => ⟨I2.kIn, ?_⟩) hpl
  rw [hks]
  exact run_fnN (vs := []) (us := []) h4 (hr.mono hle) h3 passL I2 .nil rz l1 l2 q2
/-- a call whose error a try around it waits for -/
theorem pe_calxS {X : Cx} {k j : Nat} {x : Str} {ps : List Str} {sp : Sp} {e : Expr} {es : List Expr} {t : TA} {p pos : Pos} {W : WX} (c : CalX X.prog X.w X.K X.mg X.base k x ps [] sp) (hr : Room j X.A) (tk : Takes X W) (ha : PA X (e :: es) t) (hle : k ≤ j := by decide) (hg : Gl X x := by rfl)
    (hdb : (x == ("__debug__" : Str)) = false := by decide) (he : starEach (e :: es) X.env = (false, eval e X.env) :: starEach es X.env := by rfl) (hpl : (backTo pos (starEach es X.env)).any (·.1) = false := by rfl) :
    PE X (.Call (.Name x p) (e :: es) [] pos) (tCallS sp (WE W) t) := by
  obtain ⟨f, fd, ds, h1, h2, hd, h3, h4⟩ := c
  cases hd
  exact pe_callS h4 (hr.mono hle) hg h1 h2 h3 (fun σ => passAt tk σ) ha hdb he hpl
end E1

namespace E1
open PySem PySem.Spec PyProof.Rows L2
/-! ### a def of the text that is called by its name -/
def Cal (P : Program) (w : World) (K : PySem.W.Frag) (mg : Str → Option Value) (base : Heap) (k : Nat) (x : Str) (ps : List Str) (sp : Sp) : Prop :=
  ∃ (f : Addr) (fd : FuncData), mg x = some (.ref f) ∧ PySem.W.keepIn K (.ref f) = true ∧ Binds K fd ps [] ∧ FnOk P w K mg base CX0 k f fd ps sp
theorem pe_cal {X : Cx} {k j : Nat} {x : Str} {ps : List Str} {sp : Sp} {e : Expr} {es : List Expr} {t : TA} {p pos : Pos} (c : Cal X.prog X.w X.K X.mg X.base k x ps sp) (hr : Room j X.A) (ha : PA X (e :: es) t) (hle : k ≤ j := by decide) (hg : Gl X x := by rfl)
    (hdb : (x == ("__debug__" : Str)) = false := by decide) (he : starEach (e :: es) X.env = (false, eval e X.env) :: starEach es X.env := by rfl) (hpl : (backTo pos (starEach es X.env)).any (·.1) = false := by rfl) :
    PE X (.Call (.Name x p) (e :: es) [] pos) (tCall sp [] E0 t) := by
  obtain ⟨f, fd, h1, h2, h3, h4⟩ := c
  exact pe_call h4 (hr.mono hle) hg h1 h2 h3 .nil pass0 ha hdb he hpl
/-! ### heaps -/
def SameBut (a : Addr) (H H' : Hp) : Prop := ∀ b o, b ≠ a → H b = some o → H' b = some o
theorem SameBut.refl (a : Addr) (H : Hp) : SameBut a H H := fun _ _ _ h => h
theorem SameBut.trans {a : Addr} {H H1 H2 : Hp} (x : SameBut a H H1) (y : SameBut a H1 H2) : SameBut a H H2 := fun b o n h => y b o n (x b o n h)
theorem SameBut.of {a : Addr} {H H' : Hp} (s : Same H H') : SameBut a H H' := fun b o _ h => s b o h
theorem SameBut.upd {a : Addr} {H : Hp} {o : HO} : SameBut a H (upd H a o) := fun b _ n h => by
  rw [upd_ne n]
  exact h
theorem same_new {H : Hp} {p : Addr} {o : HO} (h : H p = none) : Same H (upd H p o) := fun b x e => by
  rw [upd_ne (ne_of_none e h)]
  exact e
theorem Same.tup {K : PySem.W.Frag} {H H' : Hp} {a : Addr} {xs : List V} (e : Same H H') (h : SqT K H a xs) : SqT K H' a xs := by
  rcases h with (h | ⟨o, h⟩) | h
  · exact .inl (.inl (e _ _ h))
  · exact .inl (.inr ⟨o, e _ _ h⟩)
  · exact .inr h
theorem a0 {α : Type} {x : α} {l : List α} : atI (x :: l) 0 = some x := atI_nat (j := 0) rfl
theorem a1 {α : Type} {x y : α} {l : List α} : atI (x :: y :: l) 1 = some y := atI_nat (j := 1) rfl
theorem a2 {α : Type} {x y z : α} {l : List α} : atI (x :: y :: z :: l) 2 = some z := atI_nat (j := 2) rfl
theorem toB {p : Prop} [Decidable p] (h : decide p = true) : p := of_decide_eq_true h
theorem toNB {p : Prop} [Decidable p] (h : ¬ decide p = true) : ¬ p := fun z => h (decide_eq_true z)
/-- a well: the digits left, a number that is mixed, how many were mixed (at most c) -/
def WellAt (H : Hp) (a : Addr) (c : Int) : Prop := ∃ x y z : Int, H a = some (.lst [.int x, .int y, .int z]) ∧ 0 ≤ y ∧ y < 2147483647 ∧ 0 ≤ z ∧ z ≤ c
theorem WellAt.mono {H : Hp} {a : Addr} {c d : Int} (h : WellAt H a c) (l : c ≤ d) : WellAt H a d := by
  obtain ⟨x, y, z, e, h1, h2, h3, h4⟩ := h
  exact ⟨x, y, z, e, h1, h2, h3, by omega⟩
theorem WellAt.same {H H' : Hp} {a : Addr} {c : Int} (h : WellAt H a c) (s : Same H H') : WellAt H' a c := by
  obtain ⟨x, y, z, e, h1, h2, h3, h4⟩ := h
  exact ⟨x, y, z, s _ _ e, h1, h2, h3, h4⟩
theorem WellAt.but {H H' : Hp} {a b : Addr} {c : Int} (h : WellAt H a c) (s : SameBut b H H') (n : a ≠ b) : WellAt H' a c := by
  obtain ⟨x, y, z, e, h1, h2, h3, h4⟩ := h
  exact ⟨x, y, z, s _ _ n e, h1, h2, h3, h4⟩
/-! ### promises of the law's helpers -/
def spCell (K : PySem.W.Frag) : Sp := fun vs H Q _ => ∃ (a : Addr) (ns : List Int) (k : Nat), vs = [.ref a, .int k] ∧ SqL K H a (ns.map V.int) ∧ Q (.int (ns.getD k 0)) H
def spWell : Sp := fun vs H Q _ => ∃ c : Int, vs = [.int c] ∧ ∀ p : Addr, H p = none → ∀ H', Same H H' → WellAt H' p 0 → Q (.ref p) H'
/-- a number from 0 to below m; the well has at most one more -/
def spDraw : Sp := fun vs H Q _ => ∃ (a : Addr) (c m : Int), vs = [.ref a, .int m] ∧ WellAt H a c ∧ c ≤ 1000000000 ∧ 0 < m ∧ m.natAbs < 2 ^ 9000 ∧
  ∀ (r : Int) (H' : Hp), 0 ≤ r → r < m → SameBut a H H' → (∀ b, H b = none → H' b = none) → WellAt H' a (c + 1) → Q (.int r) H'
def topS (i : Nat) : Stmt := PySem.Challenge.pw_echobound_k90_numbers_and_ways_as_texts.main.body.getD i (.Pass ⟨0, 0, 0, 0⟩)
abbrev s_is_whole : Stmt := topS 7
abbrev s_is_fraction : Stmt := topS 8
abbrev s_shared_divisor : Stmt := topS 9
abbrev s_whole_of : Stmt := topS 13
abbrev s_wholes_of : Stmt := topS 14
abbrev s_show_fraction : Stmt := topS 15
abbrev s_show_way : Stmt := topS 16
abbrev s_check_text : Stmt := topS 17
abbrev s_read_fraction : Stmt := topS 18
abbrev s_read_way : Stmt := topS 19
abbrev s__law_cell_at : Stmt := topS 21
abbrev s__law_well : Stmt := topS 22
abbrev s__law_draw : Stmt := topS 23
abbrev s__law_low : Stmt := topS 24
abbrev s__law_same : Stmt := topS 25
abbrev s__law_great : Stmt := topS 26
abbrev s__law_figures : Stmt := topS 27
abbrev s__law_number : Stmt := topS 28
abbrev s__law_read_fraction : Stmt := topS 29
abbrev s__law_read_way : Stmt := topS 30
abbrev s__law_due : Stmt := topS 31
abbrev s__law_told : Stmt := topS 32
abbrev s__law_spoilt : Stmt := topS 33
abbrev s_law : Stmt := topS 34
section
variable {P : Program} {w : World} {K : PySem.W.Frag} {mg : Str → Option Value} {base : Heap}
theorem sc__law_cell_at : FnScope ["_law_script", "_law_k"] ["_law_script", "_law_k"] (defScope s__law_cell_at) := ⟨rfl, rfl, rfl, by decide +kernel, rfl, by decide +kernel, by decide +kernel⟩
theorem sc__law_well : FnScope ["_law_cell"] ["_law_cell"] (defScope s__law_well) := ⟨rfl, rfl, rfl, by decide +kernel, rfl, by decide +kernel, by decide +kernel⟩
theorem sc__law_draw : FnScope ["_law_well_here", "_law_many", "_law_found", "_law_number_here"] ["_law_well_here", "_law_many"] (defScope s__law_draw) := ⟨rfl, rfl, rfl, by decide +kernel, rfl, by decide +kernel, by decide +kernel⟩
theorem ok_cell {f : Addr} {fd : FuncData} {k : Nat} (F : Fun K "_law_cell_at" "_law_cell_at" s__law_cell_at f fd) (zl : mg "len" = none) : FnOk P w K mg base CX0 (k + 1) f fd ["_law_script", "_law_k"] (spCell K) := by
  refine F.ok sc__law_cell_at (fun vs H Q E h => ?_) (fun cdv A outer s H vs Q E hr h => ?_)
  · obtain ⟨a, ns, k, rfl, _⟩ := h
    rfl
  · obtain ⟨a, ns, k, rfl, hS, q⟩ := h
    refine ⟨_, (pss_cons (ps_if (pt_cmpR op_lt (pv 1) (pe_callB call_len_seq (by rfl) zl PySem.boot_len (pa_cons (pv 0) pa_nil)) (nomark _)) (pss_one (ps_ret (pe_ix ix_list (pv 0) (pv 1) (fun _ _ => rfl)))) pss_nil)
      (pss_one (ps_ret pe_int))), ?_⟩
    refine ⟨_, rfl, _, rfl, a, _, rfl, .inl hS, _, _, rfl, rfl, _, rfl, ite2 (fun c => ?_) (fun c => ?_)⟩
    · have hk : k < ns.length := by
        have := toB c
        rw [List.length_map] at this
        omega
      refine ⟨_, rfl, _, rfl, a, _, k, .int (ns.getD k 0), rfl, rfl, hS, atI_nat ?_, q⟩
      rw [List.getElem?_map, List.getElem?_eq_getElem hk, List.getD_eq_getElem?_getD, List.getElem?_eq_getElem hk]
      rfl
    · have hk : ¬ k < ns.length := fun z => by
        have := toNB c
        rw [List.length_map] at this
        omega
      have e : ns.getD k 0 = 0 := by
        rw [List.getD_eq_getElem?_getD, List.getElem?_eq_none (by omega)]
        rfl
      rw [e] at q
      exact q
theorem ok_well {f : Addr} {fd : FuncData} {k : Nat} (F : Fun K "_law_well" "_law_well" s__law_well f fd) (zi : mg "int" = none) : FnOk P w K mg base CX0 (k + 1) f fd ["_law_cell"] spWell := by
  refine F.ok sc__law_well (fun vs H Q E h => ?_) (fun cdv A outer s H vs Q E hr h => ?_)
  · obtain ⟨c, rfl, _⟩ := h
    rfl
  · obtain ⟨c, rfl, q⟩ := h
    refine ⟨_, (pss_one (ps_ret (pe_lst (pa_cons (pe_op op_mul (pv 0) (pe_callTy call_int1 (by rfl) zi (by decide +kernel) (pa_cons (pe_cmpR op_ge (pv 0) (pe_op op_pow pe_int pe_int) (nomark _)) pa_nil))) (pa_cons (pe_op op_mod (pv 0) pe_int) (pa_cons pe_int pa_nil)))))), ?_⟩
    refine ⟨_, rfl, _, rfl, _, _, rfl, rfl, ⟨by decide, by decide, by decide⟩, _, _, rfl, rfl, .inr ⟨_, rfl, _, _, rfl, rfl, .inr ?_, ?_⟩⟩
    · split <;> decide
    · refine ⟨_, rfl, _, _, rfl, rfl, (by show (0 : Int) < 2147483647; decide), (by show 3 ≤ sizeLine; decide), fun p hp => ?_⟩
      exact q p hp _ (same_new hp) ⟨_, _, _, upd_same, Int.emod_nonneg _ (by decide), Int.emod_lt_of_pos _ (by decide), Int.le_refl _, Int.le_refl _⟩
theorem ok_draw {f : Addr} {fd : FuncData} {k : Nat} (F : Fun K "_law_draw" "_law_draw" s__law_draw f fd) : FnOk P w K mg base CX0 (k + 1) f fd ["_law_well_here", "_law_many"] spDraw := by
  refine F.ok sc__law_draw (fun vs H Q E h => ?_) (fun cdv A outer s H vs Q E hr h => ?_)
  · obtain ⟨a, c, m, rfl, _⟩ := h
    rfl
  · obtain ⟨a, c, m, rfl, ⟨x, y, z, hw, y0, y1, z0, z1⟩, hc, m0, m1, q⟩ := h
    have fr : ∀ o b, H b = none → (upd H a o) b = none := fun o b hb => by
      rw [upd_ne (fun e => by rw [e, hw] at hb; cases hb)]
      exact hb
    refine ⟨_, (pss_cons (ps_if (pt_cmpR op_gt (pe_ix ix_list (pv 0) pe_int (fun _ _ => rfl)) pe_int (nomark _)) (pss_cons (ps_set (i := 2) sc__law_draw.nd rfl (.inl rfl) (pe_op op_mod (pe_ix ix_list (pv 0) pe_int (fun _ _ => rfl)) (pv 1)))
      (pss_cons (ps_asg (pe_op op_fdivW (pe_ix ix_list (pv 0) pe_int (fun _ _ => rfl)) (pv 1)) (pg_sub (pv 0) pe_int set_list))
      (pss_one (ps_ret (pv 2))))) pss_nil)
      (pss_cons (ps_asg (pe_op op_add (pe_ix ix_list (pv 0) pe_int (fun _ _ => rfl)) pe_int) (pg_sub (pv 0) pe_int set_list))
      (pss_cons (ps_set (i := 3) sc__law_draw.nd rfl (.inl rfl) (pe_op op_mod (pe_op op_pow (pe_op op_add (pe_op op_add (pe_ix ix_list (pv 0) pe_int (fun _ _ => rfl)) (pe_op op_mul pe_int (pe_ix ix_list (pv 0) pe_int (fun _ _ => rfl)))) pe_int) pe_int) pe_int))
      (pss_cons (ps_set (i := 3) sc__law_draw.nd rfl (.inl rfl) (pe_op op_mod (pe_op op_mul (pv 3) (pe_op op_add (pe_op op_fdiv (pv 3) pe_int) pe_int)) pe_int))
      (pss_one (ps_ret (pe_op op_mod (pe_op op_mod (pe_op op_mul (pv 3) (pe_op op_add (pe_op op_fdiv (pv 3) pe_int) pe_int)) pe_int) (pv 1)))))))), ?_⟩
    refine ⟨_, rfl, a, _, 0, .int x, rfl, rfl, SqL.of hw, a0, x, 0, rfl, rfl, _, rfl, ite2 (fun c => ?_) (fun c => ?_)⟩
    · refine ⟨_, rfl, a, _, 0, .int x, rfl, rfl, SqL.of hw, a0, _, rfl, x, m, rfl, rfl, m0, ?_⟩
      refine ⟨_, rfl, a, _, 0, .int x, rfl, rfl, SqL.of hw, a0, _, rfl, x, m, rfl, rfl, wide_div m0 m1 (by decide) (Nat.le_refl _), _, rfl, a, _, 0, 0, rfl, rfl, hw, rfl, ?_⟩
      refine ⟨_, rfl, q _ _ (Int.emod_nonneg _ (by omega)) (Int.emod_lt_of_pos _ m0) SameBut.upd (fr _) ⟨_, _, _, upd_same, y0, y1, z0, by omega⟩⟩
    · refine ⟨_, rfl, a, _, 2, .int z, rfl, rfl, SqL.of hw, a2, z, 1, rfl, rfl, _, rfl, a, _, 2, 2, rfl, rfl, hw, rfl, ?_⟩
      have hw2 : (upd H a (.lst [V.int x, V.int y, V.int (z + 1)])) a = some (.lst [V.int x, V.int y, V.int (z + 1)]) := upd_same
      have n5 : 0 ≤ y + 7919 * (z + 1) + 1 ∧ y + 7919 * (z + 1) + 1 < 18446744073709551616 := by omega
      refine ⟨_, rfl, a, _, 1, .int y, rfl, rfl, SqL.of hw2, a1, _, rfl, a, _, 2, .int (z + 1), rfl, rfl, SqL.of hw2, a2, _, _, rfl, rfl, .inl ⟨by decide, by decide⟩, _, _, rfl, rfl, _, _, rfl, rfl, _, _, rfl, rfl, ⟨by decide, by decide, ?_⟩, _, _, rfl, rfl, (by show (0 : Int) < 2147483647; decide), ?_⟩
      · show (y + 7919 * (z + 1) + 1).natAbs < 18446744073709551616
        omega
      · generalize hn : (y + 7919 * (z + 1) + 1) ^ (5 : Int).toNat % 2147483647 = n
        have n0 : 0 ≤ n := by rw [← hn]; exact Int.emod_nonneg _ (by decide)
        have n1 : n < 2147483647 := by rw [← hn]; exact Int.emod_lt_of_pos _ (by decide)
        refine ⟨_, rfl, _, rfl, _, _, rfl, rfl, ⟨by decide, by decide⟩, _, _, rfl, rfl, _, _, rfl, rfl, .inl ⟨by omega, by omega⟩, _, _, rfl, rfl, (by show (0 : Int) < 2147483629; decide), ?_⟩
        generalize hm : n * (n / 1009 + 69621) % 2147483629 = u
        have u0 : 0 ≤ u := by rw [← hm]; exact Int.emod_nonneg _ (by decide)
        have u1 : u < 2147483629 := by rw [← hm]; exact Int.emod_lt_of_pos _ (by decide)
        refine ⟨_, rfl, _, rfl, _, _, rfl, rfl, ⟨by decide, by decide⟩, _, _, rfl, rfl, _, _, rfl, rfl, .inl ⟨by omega, by omega⟩, _, _, rfl, rfl, (by show (0 : Int) < 2147483587; decide), _, rfl, _, _, rfl, rfl, m0, ?_⟩
        exact q _ _ (Int.emod_nonneg _ (by omega)) (Int.emod_lt_of_pos _ m0) SameBut.upd (fr _) ⟨_, _, _, upd_same, y0, y1, by omega, by omega⟩
end
end E1

namespace E1
open PySem PySem.Spec PyProof.Rows L2

def CalD (P : Program) (w : World) (K : PySem.W.Frag) (mg : Str → Option Value) (base : Heap) (k : Nat) (x : Str) (ps : List Str) (dvs : List V) (sp : Sp) : Prop :=
  ∃ (f : Addr) (fd : FuncData) (ds : List Value), mg x = some (.ref f) ∧ PySem.W.keepIn K (.ref f) = true ∧ Vals dvs ds ∧ Binds K fd ps ds ∧ FnOk P w K mg base CX0 k f fd ps sp
theorem pe_cald {X : Cx} {k j : Nat} {x : Str} {ps : List Str} {dvs : List V} {sp : Sp} {e : Expr} {es : List Expr} {t : TA} {p pos : Pos} (c : CalD X.prog X.w X.K X.mg X.base k x ps dvs sp) (hr : Room j X.A) (ha : PA X (e :: es) t) (hle : k ≤ j := by decide) (hg : Gl X x := by rfl)
    (hdb : (x == ("__debug__" : Str)) = false := by decide) (he : starEach (e :: es) X.env = (false, eval e X.env) :: starEach es X.env := by rfl) (hpl : (backTo pos (starEach es X.env)).any (·.1) = false := by rfl) :
    PE X (.Call (.Name x p) (e :: es) [] pos) (tCall sp dvs E0 t) := by
  obtain ⟨f, fd, ds, h1, h2, hd, h3, h4⟩ := c
  exact pe_call h4 (hr.mono hle) hg h1 h2 h3 hd pass0 ha hdb he hpl
def CalK (P : Program) (w : World) (K : PySem.W.Frag) (mg : Str → Option Value) (base : Heap) (k : Nat) (x : Str) (ps : List Str) (n : Nat) (ks : List Str) (gV : List V → List V → List V) (sp : Sp) : Prop :=
  ∃ (f : Addr) (fd : FuncData) (g : List Value → List Value → List Value), mg x = some (.ref f) ∧ PySem.W.keepIn K (.ref f) = true ∧ KBn K fd ps n ks g gV ∧ FnOk P w K mg base CX0 k f fd ps sp
theorem pe_calk {X : Cx} {k j n : Nat} {x : Str} {ps ks : List Str} {gV : List V → List V → List V} {sp : Sp} {e : Expr} {es : List Expr} {kws : List Keyword} {t tk : TA} {p pos : Pos} (c : CalK X.prog X.w X.K X.mg X.base k x ps n ks gV sp) (hr : Room j X.A)
    (ha : PA X (e :: es) t) (hkw : PK X kws tk) (hle : k ≤ j := by decide) (hg : Gl X x := by rfl) (hall : (backToKw pos (keywordEach kws X.env)).all (·.1.isSome) = true := by rfl) (hks : (backToKw pos (keywordEach kws X.env)).filterMap (·.1) = ks := by rfl)
    (hdb : (x == ("__debug__" : Str)) = false := by decide) (he : starEach (e :: es) X.env = (false, eval e X.env) :: starEach es X.env := by rfl)
    (hpl : ((backTo pos (starEach (e :: es) X.env)).any (·.1) || (backToKw pos (keywordEach kws X.env)).any (·.1.isNone)) = false := by rfl) :
    PE X (.Call (.Name x p) (e :: es) kws pos) (tCallN n ks.length sp gV E0 t tk) := by
  obtain ⟨f, fd, g, h1, h2, h3, h4⟩ := c
  exact pe_callN h4 (hr.mono hle) hg h1 h2 h3 pass0 ha hkw hall hks hdb he hpl
theorem pe_calk0 {X : Cx} {k j : Nat} {x : Str} {ps ks : List Str} {gV : List V → List V → List V} {sp : Sp} {kws : List Keyword} {tk : TA} {p pos : Pos} (c : CalK X.prog X.w X.K X.mg X.base k x ps 0 ks gV sp) (hr : Room j X.A)
    (hkw : PK X kws tk) (hle : k ≤ j := by decide) (hg : Gl X x := by rfl) (hall : (backToKw pos (keywordEach kws X.env)).all (·.1.isSome) = true := by rfl) (hks : (backToKw pos (keywordEach kws X.env)).filterMap (·.1) = ks := by rfl)
    (hdb : (x == ("__debug__" : Str)) = false := by decide)
    (hpl : ((backTo pos (starEach [] X.env)).any (·.1) || (backToKw pos (keywordEach kws X.env)).any (·.1.isNone)) = false := by rfl) :
    PE X (.Call (.Name x p) [] kws pos) (tCallN 0 ks.length sp gV E0 tNil tk) := by
  obtain ⟨f, fd, g, h1, h2, h3, h4⟩ := c
  refine ⟨fun pins s σ H Q I h => ?_⟩
  refine wpAny_Call_Name_kw (ld_glob I hg h1 ?_ hdb)
  refine PySem.W.callWith_KW0 (h₀ := X.base) I.ok.mod.kin h2 hall (thn (hkw.run pos pins s σ H _ I h) fun ws s2 ⟨zs, H2, I2, rz, l1, l2, q2⟩ => ⟨I2.kIn, ?_⟩) hpl
  rw [hks]
  exact run_fnN (vs := []) (us := []) h4 (hr.mono hle) h3 pass0 I2 .nil rz l1 l2 q2
/-- a class handed to isinstance -/
theorem isiB {K : PySem.W.Frag} {H : Hp} {x : V} {a b : String} {r : Bool} {Q : VK} (ty : TyX K H x (.type a)) (k : kitB a b = some r) (q : Q (.bl r) H) : rIsi K [x, .ty b] H Q :=
  ⟨x, .ty b, .type a, .type b, r, rfl, .ty _, ty, kit_ty k, q⟩
/-- whether a thing is a whole number -/
def WholeIs (K : PySem.W.Frag) (H : Hp) (x : V) (b : Bool) : Prop := (∃ i, x = .int i ∧ b = true) ∨ (∃ c, x = .bl c ∧ b = false) ∨ (b = false ∧ ∃ t : String, TyX K H x (.type t) ∧ kitB t "int" = some false)
theorem WholeIs.int {K : PySem.W.Frag} {H : Hp} (i : Int) : WholeIs K H (.int i) true := .inl ⟨i, rfl, rfl⟩
def spWhole (K : PySem.W.Frag) : Sp := fun vs H Q _ => ∃ (x : V) (b : Bool), vs = [x] ∧ WholeIs K H x b ∧ Q (.bl b) H
/-! ### the mathematics of fractions in lowest terms -/
def gI (t b : Int) : Int := (Int.gcd t b : Nat)
def lowT (t b : Int) : Int := (if b < 0 then -t else t) / gI t b
def lowB (t b : Int) : Int := (if b < 0 then -b else b) / gI t b
theorem gI_neg (t b : Int) : gI (-t) (-b) = gI t b := by
  unfold gI
  rw [Int.neg_gcd, Int.gcd_neg]
theorem gI_pos {t b : Int} (h : b ≠ 0) : 0 < gI t b := by
  have : 0 < Int.gcd t b := Int.gcd_pos_of_ne_zero_right t h
  unfold gI
  omega
theorem gI_le {t b : Int} (h : b ≠ 0) : (gI t b).natAbs ≤ b.natAbs := by
  have d : Int.gcd t b ∣ b.natAbs := Nat.gcd_dvd_right t.natAbs b.natAbs
  have := Nat.le_of_dvd (by omega) d
  unfold gI
  omega
def spShared : Sp := fun vs H Q _ => ∃ t b : Int, vs = [.int t, .int b] ∧ 0 ≤ b ∧ Q (.int (gI t b)) H
def spLow : Sp := fun vs H Q _ => ∃ t b : Int, vs = [.int t, .int b] ∧ b ≠ 0 ∧ b.natAbs < 2 ^ 4000 ∧ ∀ p, H p = none → Q (.ref p) (upd H p (.tup [.int (lowT t b), .int (lowB t b)]))
/-- two fractions at two places; the tops and bottoms told by f and d -/
def spTwo (K : PySem.W.Frag) (pre : Int → Int → Int → Int → Prop) (f d : Int → Int → Int → Int → Int) : Sp := fun vs H Q _ => ∃ (a c : Addr) (t u v x : Int), vs = [.ref a, .ref c] ∧ SqT K H a [.int t, .int u] ∧ SqT K H c [.int v, .int x] ∧
  pre t u v x ∧ 0 < u ∧ 0 < x ∧ t.natAbs < 2 ^ 1900 ∧ u.natAbs < 2 ^ 1900 ∧ v.natAbs < 2 ^ 1900 ∧ x.natAbs < 2 ^ 1900 ∧ ∀ p, H p = none → Q (.ref p) (upd H p (.tup [.int (lowT (f t u v x) (d t u v x)), .int (lowB (f t u v x) (d t u v x))]))
def spUnder (K : PySem.W.Frag) : Sp := fun vs H Q _ => ∃ (a c : Addr) (t u v x : Int), vs = [.ref a, .ref c] ∧ SqT K H a [.int t, .int u] ∧ SqT K H c [.int v, .int x] ∧
  t.natAbs < 2 ^ 1900 ∧ u.natAbs < 2 ^ 1900 ∧ v.natAbs < 2 ^ 1900 ∧ x.natAbs < 2 ^ 1900 ∧ Q (.bl (decide (t * x < v * u))) H
def absI (t : Int) : Int := if t < 0 then -t else t
def spSize (K : PySem.W.Frag) : Sp := fun vs H Q _ => ∃ (a : Addr) (t u : Int), vs = [.ref a] ∧ SqT K H a [.int t, .int u] ∧ ∀ p, H p = none → Q (.ref p) (upd H p (.tup [.int (absI t), .int u]))
def twoT (m : Int) : Int := if m < 0 then 1 else 2 ^ m.toNat
def twoB (m : Int) : Int := if m < 0 then 2 ^ (-m).toNat else 1
def spTwoTo : Sp := fun vs H Q _ => ∃ m : Int, vs = [.int m] ∧ -400 ≤ m ∧ m ≤ 400 ∧ ∀ p, H p = none → Q (.ref p) (upd H p (.tup [.int (twoT m), .int (twoB m)]))
def spIsFrac : Sp := fun vs H Q _ => ∃ (a : Addr) (t u : Int), vs = [.ref a] ∧ H a = some (.tup [.int t, .int u]) ∧ 1 ≤ u ∧ Q (.bl (decide (gI t u = 1))) H
theorem up {x : Nat} {a b : Nat} (h : x < 2 ^ a) (l : a ≤ b) : x < 2 ^ b := Nat.lt_of_lt_of_le h (Nat.pow_le_pow_right (by decide) l)
theorem iteN {c A B : Prop} [Decidable c] (h1 : ¬ c → A) (h2 : c → B) : if (!decide c) = true then A else B := by
  by_cases h : c
  · rw [decide_eq_true h]
    exact iteF (h2 h)
  · rw [decide_eq_false h]
    exact iteT (h1 h)
theorem Same.free {H H' : Hp} {p : Addr} (s : Same H H') (h : H' p = none) : H p = none := by
  cases e : H p with
  | none => rfl
  | some o =>
    rw [s _ _ e] at h
    cases h
structure Zs (mg : Str → Option Value) : Prop where
  isinstance : mg "isinstance" = none
  int : mg "int" = none
  bool : mg "bool" = none
  tuple : mg "tuple" = none
  len : mg "len" = none
  abs : mg "abs" = none
  all : mg "all" = none
  str : mg "str" = none
  list : mg "list" = none
  zip : mg "zip" = none
  range : mg "range" = none
  max : mg "max" = none
section
variable {P : Program} {w : World} {K : PySem.W.Frag} {mg : Str → Option Value} {base : Heap}
theorem sc_is_whole : FnScope ["thing"] ["thing"] (defScope s_is_whole) := ⟨rfl, rfl, rfl, by decide +kernel, rfl, by decide +kernel, by decide +kernel⟩
theorem ok_is_whole {f : Addr} {fd : FuncData} {k : Nat} (F : Fun K "is_whole" "is_whole" s_is_whole f fd) (z : Zs mg) : FnOk P w K mg base CX0 (k + 1) f fd ["thing"] (spWhole K) := by
  refine F.ok sc_is_whole (fun vs H Q E h => ?_) (fun cdv A outer s H vs Q E hr h => ?_)
  · obtain ⟨x, b, rfl, _⟩ := h
    rfl
  · obtain ⟨x, b, rfl, hw, q⟩ := h
    refine ⟨_, (pss_one (ps_ret (pe_and (pe_callB call_isi (by rfl) z.isinstance (by decide +kernel) (pa_cons (pv 0) (pa_cons (pe_bltn (v := .ty "int") (by rfl) z.int (by decide +kernel) rfl) pa_nil))) (pe_one (pe_not (pe_callB call_isi (by rfl) z.isinstance (by decide +kernel) (pa_cons (pv 0) (pa_cons (pe_bltn (v := .ty "bool") (by rfl) z.bool (by decide +kernel) rfl) pa_nil)))))))), ?_⟩
    rcases hw with ⟨i, rfl, rfl⟩ | ⟨c, rfl, rfl⟩ | ⟨rfl, t, ty, kt⟩
    · exact ⟨_, rfl, _, .ty "int", _, _, true, rfl, .ty _, .base (.int i), kit_ty (by decide +kernel), _, rfl, iteT ⟨_, rfl, _, .ty "bool", _, _, false, rfl, .ty _, .base (.int i), kit_ty (by decide +kernel), _, rfl, q⟩⟩
    · exact ⟨_, rfl, _, .ty "int", _, _, true, rfl, .ty _, .base (.bl c), kit_ty (by decide +kernel), _, rfl, iteT ⟨_, rfl, _, .ty "bool", _, _, true, rfl, .ty _, .base (.bl c), kit_ty (by decide +kernel), _, rfl, q⟩⟩
    · exact ⟨_, rfl, _, .ty "int", _, _, false, rfl, .ty _, ty, kit_ty kt, _, rfl, iteF q⟩
theorem sc_shared_divisor : FnScope ["top", "bottom", "one", "other"] ["top", "bottom"] (defScope s_shared_divisor) := ⟨rfl, rfl, rfl, by decide +kernel, rfl, by decide +kernel, by decide +kernel⟩
theorem ok_shared_divisor {f : Addr} {fd : FuncData} {k : Nat} (F : Fun K "shared_divisor" "shared_divisor" s_shared_divisor f fd) (z : Zs mg) : FnOk P w K mg base CX0 (k + 1) f fd ["top", "bottom"] spShared := by
  refine F.ok sc_shared_divisor (fun vs H Q E h => ?_) (fun cdv A outer s H vs Q E hr h => ?_)
  · obtain ⟨t, b, rfl, _⟩ := h
    rfl
  · obtain ⟨t, b, rfl, hb, q⟩ := h
    refine ⟨_, (pss_cons (ps_set (i := 2) sc_shared_divisor.nd rfl (.inl rfl) (pe_callB call_abs (by rfl) z.abs (by decide +kernel) (pa_cons (pv 0) pa_nil)))
      (pss_cons (ps_set (i := 3) sc_shared_divisor.nd rfl (.inl rfl) (pv 1))
      (pss_cons (ps_while PassesOwn.never (pt_truth (pv 3) (by intro _; rfl)) (pss_one (ps_par (i := 2) (j := 3) (by rfl) sc_shared_divisor.nd rfl rfl (by decide) rfl rfl (pa_cons (pv 3) (pa_cons (pe_op op_mod (pv 2) (pv 3)) pa_nil)) (by rfl))))
      (pss_one (ps_ret (pv 2)))))), ?_⟩
    refine ⟨_, rfl, _, rfl, ?_⟩
    refine ⟨_, rfl, ?_⟩
    dsimp only [gName, tSeq]
    refine while_by (fun σ H' => H' = H ∧ ∃ m n : Nat, σ = [some (.int t), some (.int b), some (.int (m : Int)), some (.int (n : Int))] ∧ Nat.gcd m n = Int.gcd t b)
      (fun σ _ => match σ with | [_, _, _, some (.int r)] => r.toNat | _ => 0) ⟨rfl, t.natAbs, b.natAbs, ?_, rfl⟩ (fun σ H1 hP => ?_) (fun σ H Q Q' m hh => ?_)
    · have e1 : (if t < 0 then -t else t) = (t.natAbs : Int) := by split <;> omega
      have e2 : b = (b.natAbs : Int) := by omega
      show [some (V.int t), some (V.int b), some (V.int (if t < 0 then -t else t)), some (V.int b)] = _
      rw [e1, ← e2]
    · obtain ⟨rfl, m, n, rfl, hg⟩ := hP
      refine ⟨_, rfl, _, rfl, ?_⟩
      by_cases hn : n = 0
      · subst hn
        have e : ((((0 : Nat) : Int)) != 0) = false := rfl
        rw [e]
        refine iteF ⟨_, rfl, ?_⟩
        rw [Nat.gcd_zero_right] at hg
        have e2 : (m : Int) = gI t b := by
          unfold gI
          rw [hg]
        rw [e2]
        exact q
      · have e : ((n : Int) != 0) = true := by
          rw [bne_iff_ne]
          omega
        rw [e]
        refine iteT ⟨_, rfl, _, rfl, _, rfl, _, _, rfl, rfl, (by omega), _, _, rfl, ⟨⟨rfl, n, m % n, rfl, ?_⟩, ?_⟩⟩
        · rw [← hg, Nat.gcd_comm n (m % n), ← Nat.gcd_rec n m, Nat.gcd_comm]
        · show ((m : Int) % (n : Int)).toNat < ((n : Int)).toNat
          have := Int.emod_lt_of_pos (m : Int) (show (0 : Int) < n by omega)
          have := Int.emod_nonneg (m : Int) (show (n : Int) ≠ 0 by omega)
          omega
    · obtain ⟨v, e, kk, tv, hq⟩ := hh
      exact ⟨v, e, kk, tv, m _ _ hq⟩
end
end E1

namespace E1
open PySem PySem.Spec PyProof.Rows L2
/-! ### texts of whole numbers -/
open PySem.NumText in
/-- written with figures alone, at most four hundred, no nought ahead -/
def figs (l : List Nat) : Bool := !(l == [] || decide (400 < l.length) || (l.head? == some 48 && l != [48])) && l.all fun c => decide (48 ≤ c) && decide (c ≤ 57)
def numb (l : List Nat) : Bool := figs l || (l.take 1 == [45] && figs (l.drop 1) && l != [45, 48])
def valL (l : List Nat) : Int := if l.head? = some 45 then -((NumText.digitsVal (l.drop 1) : Nat) : Int) else ((NumText.digitsVal l : Nat) : Int)
def wholeL (l : List Nat) : Option Int := if numb l = true then some (valL l) else none
/-- a whole number's text -/
def itx (n : Int) : List Nat := if n < 0 then 45 :: TL.numL n.natAbs else TL.numL n.natAbs
theorem tl_int (n : Int) : TL.tl (Str.ofString (toString n)) = itx n := by
  unfold itx
  cases n with
  | ofNat m => 
    rw [if_neg (show ¬ Int.ofNat m < 0 from Int.not_lt.mpr (Int.natCast_nonneg m))]
    exact TL.tl_num m
  | negSucc m =>
    rw [if_pos (by omega), TL.tl_ofString]
    have e : (toString (Int.negSucc m)).toList = '-' :: (toString (m + 1)).toList := by
      show ("-" ++ toString (m + 1)).toList = _
      rw [String.toList_append]
      rfl
    rw [e, List.map_cons]
    have h := TL.tl_num (m + 1)
    rw [TL.tl_ofString] at h
    exact congrArg (45 :: ·) h
theorem int_itx (n : Int) : Str.ofString (toString n) = SX.S (itx n) := TL.ext_tl (tl_int n)
theorem numL_back {l : List Nat} (h : NumText.AllDigits l) (hne : l ≠ []) (h0 : l = [48] ∨ l.head? ≠ some 48) : TL.numL (NumText.digitsVal l) = l := by
  unfold TL.numL
  rw [NumText.toDigits_digitsVal (l.length - 1) l (by cases l with | nil => exact absurd rfl hne | cons _ _ => rfl) h ?_, List.map_map]
  · have : ∀ c ∈ l, (Char.toNat ∘ Char.ofNat) c = c := fun c hc => by
      obtain ⟨a, b⟩ := h c hc
      have key : ∀ k : Fin 10, (Char.ofNat (48 + k.val)).toNat = 48 + k.val := by decide
      have := key ⟨c - 48, by omega⟩
      simp only [show 48 + (c - 48) = c by omega] at this
      exact this
    rw [List.map_congr_left this, List.map_id']
  · cases l with
    | nil => exact absurd rfl hne
    | cons c r =>
      rcases h0 with e | e
      · cases e
        exact .inl rfl
      · refine .inr ⟨c, r, rfl, ?_⟩
        have := (h c (List.mem_cons_self ..)).1
        have : c ≠ 48 := fun z => e (by rw [z]; rfl)
        omega
theorem fold_lt : ∀ (l : List Nat) (a : Nat), NumText.AllDigits l → l.foldl (fun acc c => acc * 10 + (c - 48)) a < (a + 1) * 10 ^ l.length
  | [], a, _ => by simp
  | c :: r, a, h => by
    have hc := h.head
    have ih := fold_lt r (a * 10 + (c - 48)) h.tail
    rw [List.foldl_cons, List.length_cons]
    rw [Nat.pow_succ]
    refine Nat.lt_of_lt_of_le ih ?_
    have : a * 10 + (c - 48) + 1 ≤ (a + 1) * 10 := by omega
    calc (a * 10 + (c - 48) + 1) * 10 ^ r.length ≤ (a + 1) * 10 * 10 ^ r.length := Nat.mul_le_mul_right _ this
      _ = (a + 1) * (10 ^ r.length * 10) := by rw [Nat.mul_assoc, Nat.mul_comm 10]
theorem digits_lt (l : List Nat) (h : NumText.AllDigits l) : NumText.digitsVal l < 10 ^ l.length := by
  have := fold_lt l 0 h
  rw [Nat.zero_add, Nat.one_mul] at this
  exact this
theorem numL_not {r : List Nat} (h : NumText.AllDigits r) (hne : r ≠ []) : TL.numL (NumText.digitsVal (48 :: r)) ≠ 48 :: r := fun e => by
  have d := digits_lt r h
  have l := TL.numL_len (n := NumText.digitsVal r) (k := r.length) (by cases r with | nil => exact absurd rfl hne | cons _ _ => exact Nat.succ_pos _) d
  rw [NumText.digitsVal_zero] at e
  rw [e, List.length_cons] at l
  omega

theorem all_dig {l : List Nat} : (l.all fun c => decide (48 ≤ c) && decide (c ≤ 57)) = true ↔ NumText.AllDigits l := by
  rw [List.all_eq_true]
  constructor
  · intro h c hc
    have := h c hc
    rw [Bool.and_eq_true, decide_eq_true_eq, decide_eq_true_eq] at this
    exact this
  · intro h c hc
    rw [Bool.and_eq_true]
    rw [decide_eq_true_eq, decide_eq_true_eq]
    exact h c hc
theorem figs_iff {l : List Nat} : figs l = true ↔ l ≠ [] ∧ l.length ≤ 400 ∧ (l = [48] ∨ l.head? ≠ some 48) ∧ NumText.AllDigits l := by
  unfold figs
  rw [Bool.and_eq_true, all_dig, Bool.not_eq_true', Bool.or_eq_false_iff, Bool.or_eq_false_iff, beq_eq_false_iff_ne, decide_eq_false_iff_not, Bool.and_eq_false_iff, beq_eq_false_iff_ne, bne_eq_false_iff_eq]
  constructor
  · rintro ⟨⟨⟨a, b⟩, c⟩, d⟩
    exact ⟨a, by omega, c.symm, d⟩
  · rintro ⟨a, b, c, d⟩
    exact ⟨⟨⟨a, by omega⟩, c.symm⟩, d⟩
/-- what the text is without its sign -/
def bare (l : List Nat) : List Nat := if l.head? = some 45 then l.drop 1 else l
/-- the figures, as the program asks for them -/
def figd (l : List Nat) : Prop := 1 ≤ (bare l).length ∧ (bare l).length ≤ 400 ∧ NumText.AllDigits (bare l)
theorem figd_len {l : List Nat} (h : figd l) : l.length ≤ 401 := by
  obtain ⟨_, h, _⟩ := h
  unfold bare at h
  split at h
  · rw [List.length_drop] at h
    omega
  · omega
theorem valL_int {l : List Nat} (h : figd l) : PySem.intText? (SX.S l) = some (valL l) := by
  have hl := figd_len h
  obtain ⟨h1, h2, h3⟩ := h
  have sl : (SX.S l).length ≤ 4300 := by rw [SX.S_len]; omega
  unfold valL
  unfold bare at h1 h2 h3
  by_cases c : l.head? = some 45
  · rw [if_pos c] at h1 h2 h3
    rw [if_pos c]
    match l, c with
    | x :: r, c =>
      cases c
      exact PySem.intText_neg (x := SX.S (45 :: r)) (cs := r) rfl h3 (fun z => by rw [z] at h1; exact absurd h1 (by decide)) sl
  · rw [if_neg c] at h1 h2 h3
    rw [if_neg c]
    exact PySem.intText_digits (x := SX.S l) h3 (fun z => by rw [show l = [] from z] at h1; exact absurd h1 (by decide)) sl
theorem not_figd {l : List Nat} (h : ¬ figd l) : numb l = false := by
  cases e : numb l with
  | false => rfl
  | true =>
    refine absurd ?_ h
    unfold numb at e
    rw [Bool.or_eq_true, Bool.and_eq_true, Bool.and_eq_true, beq_iff_eq] at e
    rcases e with e | ⟨⟨e1, e⟩, _⟩
    · obtain ⟨a, b, c, d⟩ := figs_iff.mp e
      have hb : bare l = l := by
        unfold bare
        rw [if_neg]
        intro z
        match l, z with
        | x :: r, z =>
          cases z
          have := d.head
          omega
      refine ⟨?_, ?_, ?_⟩
      · rw [hb]
        exact List.length_pos_iff.mpr a
      · rw [hb]
        exact b
      · rw [hb]
        exact d
    · obtain ⟨a, b, c, d⟩ := figs_iff.mp e
      have hb : bare l = l.drop 1 := by
        unfold bare
        rw [if_pos]
        match l, e1 with
        | x :: r, e1 =>
          cases e1
          rfl
      unfold figd
      rw [hb]
      exact ⟨List.length_pos_iff.mpr a, b, d⟩
theorem itx_nat (n : Nat) : itx (n : Int) = TL.numL n := by
  unfold itx
  rw [if_neg (by omega)]
  rfl
theorem figd_numb {l : List Nat} (h : figd l) : (itx (valL l) = l) ↔ numb l = true := by
  obtain ⟨h1, h2, h3⟩ := h
  unfold bare at h1 h2 h3
  unfold valL numb
  by_cases c : l.head? = some 45
  · rw [if_pos c] at h1 h2 h3
    rw [if_pos c]
    match l, c with
    | x :: r, c =>
      cases c
      show itx (-((NumText.digitsVal r : Nat) : Int)) = 45 :: r ↔ (figs (45 :: r) || ([45] == [45] && figs r && (45 :: r) != [45, 48])) = true
      have r0 : r ≠ [] := fun z => by rw [z] at h1; exact absurd h1 (by decide)
      have f0 : figs (45 :: r) = false := by
        cases e : figs (45 :: r) with
        | false => rfl
        | true =>
          have := (figs_iff.mp e).2.2.2.head
          omega
      rw [f0, Bool.false_or, show (([45] : List Nat) == [45]) = true from rfl, Bool.true_and, Bool.and_eq_true, figs_iff, bne_iff_ne]
      by_cases z : NumText.digitsVal r = 0
      · rw [z]
        constructor
        · intro e
          have e2 : [48] = 45 :: r := e
          exact absurd (List.cons.inj e2).1 (by decide)
        · rintro ⟨⟨_, _, a, d⟩, b⟩
          rcases a with a | a
          · exact absurd (by rw [a]) b
          · have := numL_back d r0 (.inr a)
            rw [z] at this
            exact absurd (by rw [← this]; rfl) a
      · have e : itx (-((NumText.digitsVal r : Nat) : Int)) = 45 :: TL.numL (NumText.digitsVal r) := by
          unfold itx
          rw [if_pos (by omega), Int.natAbs_neg]
          rfl
        rw [e]
        constructor
        · intro q
          have q2 := (List.cons.inj q).2
          refine ⟨⟨r0, h2, ?_, h3⟩, fun w => ?_⟩
          · match r, r0 with
            | y :: s, _ =>
              by_cases y0 : y = 48
              · subst y0
                by_cases s0 : s = []
                · rw [s0]
                  exact .inl rfl
                · exact absurd q2 (numL_not h3.tail s0)
              · exact .inr (fun w => y0 (Option.some.inj w))
          · have := (List.cons.inj w).2
            rw [this] at z
            exact z rfl
        · rintro ⟨⟨_, _, a, d⟩, b⟩
          rw [numL_back d r0 a]
  · rw [if_neg c] at h1 h2 h3
    rw [if_neg c, itx_nat]
    have l0 : l ≠ [] := fun z => by rw [z] at h1; exact absurd h1 (by decide)
    have f1 : (l.take 1 == [45]) = false := by
      match l, l0 with
      | x :: r, _ =>
        cases e : ((x :: r).take 1 == [45]) with
        | false => rfl
        | true =>
          refine absurd ?_ c
          have := beq_iff_eq.mp e
          cases this
          rfl
    rw [f1, Bool.false_and, Bool.false_and, Bool.or_false, figs_iff]
    constructor
    · intro q
      refine ⟨l0, h2, ?_, h3⟩
      match l, l0 with
      | y :: s, _ =>
        by_cases y0 : y = 48
        · subst y0
          by_cases s0 : s = []
          · rw [s0]
            exact .inl rfl
          · exact absurd q (numL_not h3.tail s0)
        · exact .inr (fun w => y0 (Option.some.inj w))
    · rintro ⟨_, _, a, d⟩
      exact numL_back d l0 a
theorem valL_size {l : List Nat} (h : figd l) : (valL l).natAbs < 10 ^ 400 := by
  obtain ⟨h1, h2, h3⟩ := h
  have d := digits_lt _ h3
  have e : (valL l).natAbs = NumText.digitsVal (bare l) := by
    unfold valL bare
    split
    · rw [Int.natAbs_neg]
      rfl
    · rfl
  rw [e]
  exact Nat.lt_of_lt_of_le d (Nat.pow_le_pow_right (by decide) h2)
theorem log_ten {n : Nat} (h : n < 10 ^ 400) : n.log2 < 1920 := by
  by_cases z : n = 0
  · rw [z]
    decide
  · exact (Nat.log2_lt z).mpr (Nat.lt_of_lt_of_le h (by decide +kernel))
theorem log_val {l : List Nat} (h : figd l) : (valL l).natAbs.log2 < 1920 := log_ten (valL_size h)
theorem itx_figd {n : Int} (h : n.natAbs < 10 ^ 400) : figd (itx n) ∧ valL (itx n) = n := by
  have ln := TL.numL_len (n := n.natAbs) (k := 400) (by decide) h
  have l1 : 1 ≤ (TL.numL n.natAbs).length := List.length_pos_iff.mpr (TL.numL_ne _)
  unfold itx figd bare valL
  by_cases c : n < 0
  · have hh : (45 :: TL.numL n.natAbs).head? = some 45 := rfl
    rw [if_pos c, if_pos hh, if_pos hh]
    refine ⟨⟨l1, ln, TL.numL_digits _⟩, ?_⟩
    show -((NumText.digitsVal (TL.numL n.natAbs) : Nat) : Int) = n
    rw [TL.numL_val]
    omega
  · rw [if_neg c]
    have hh : ¬ (TL.numL n.natAbs).head? = some 45 := fun z => by
      have := List.mem_of_mem_head? z
      have := TL.numL_digits _ _ this
      omega
    rw [if_neg hh, if_neg hh, TL.numL_val]
    exact ⟨⟨l1, ln, TL.numL_digits _⟩, by omega⟩
theorem itx_numb {n : Int} (h : n.natAbs < 10 ^ 400) : numb (itx n) = true := by
  obtain ⟨a, b⟩ := itx_figd h
  exact (figd_numb a).mp (by rw [b])

end E1

namespace E1
open PySem PySem.Spec PyProof.Rows L2

theorem figs_mem (c : Nat) : decide (c ∈ (("0123456789" : Str)).cps.toList) = (decide (48 ≤ c) && decide (c ≤ 57)) := by
  show decide (c ∈ [48, 49, 50, 51, 52, 53, 54, 55, 56, 57]) = _
  by_cases h : 48 ≤ c ∧ c ≤ 57
  · rw [decide_eq_true h.1, decide_eq_true h.2]
    have key : ∀ k : Fin 10, decide (48 + k.val ∈ [48, 49, 50, 51, 52, 53, 54, 55, 56, 57]) = true := by decide
    have := key ⟨c - 48, by omega⟩
    simp only [show 48 + (c - 48) = c by omega] at this
    exact this
  · have : ¬ c ∈ [48, 49, 50, 51, 52, 53, 54, 55, 56, 57] := fun m => by
      simp only [List.mem_cons, List.not_mem_nil, or_false] at m
      omega
    rw [decide_eq_false this]
    symm
    rw [Bool.and_eq_false_iff, decide_eq_false_iff_not, decide_eq_false_iff_not]
    omega
theorem bare_S (l : List Nat) : Txt.removeprefix (SX.S l) "-" = SX.S (bare l) := by
  rw [StrLaws.removeprefix_eq]
  unfold bare
  match l with
  | [] => rfl
  | c :: r =>
    by_cases h : c = 45
    · subst h
      rw [if_pos, if_pos (show (45 :: r).head? = some 45 from rfl)]
      · have e : ("-" : Str).length = 1 := rfl
        have e2 : (SX.S (45 :: r)).length = r.length + 1 := SX.S_len _
        rw [e, e2]
        show SX.S ((List.drop 1 (45 :: r)).take (r.length + 1 - 1)) = SX.S r
        rw [List.drop_succ_cons, List.drop_zero, Nat.add_sub_cancel, List.take_length]
      · have : Builtin.Str.subAt (SX.S (45 :: r)) "-" 0 = true := by
          unfold Builtin.Str.subAt
          have : (SX.S (45 :: r)).cps.extract 0 (0 + ("-" : Str).length) = #[45] := by
            show (45 :: r).toArray.extract 0 1 = _
            simp
          rw [this]
          rfl
        rw [this, Bool.and_true, decide_eq_true_eq]
        show 1 ≤ (45 :: r).toArray.size
        simp
    · rw [if_neg, if_neg (show ¬ (c :: r).head? = some 45 from fun z => h (Option.some.inj z))]
      have : Builtin.Str.subAt (SX.S (c :: r)) "-" 0 = false := by
        unfold Builtin.Str.subAt
        have : (SX.S (c :: r)).cps.extract 0 (0 + ("-" : Str).length) = #[c] := by
          show (c :: r).toArray.extract 0 1 = _
          simp
        rw [this]
        show (#[c] == #[45]) = false
        rw [beq_eq_false_iff_ne]
        intro z
        have := congrArg Array.toList z
        exact h (List.cons.inj this).1
      rw [this, Bool.and_false]
      exact Bool.false_ne_true
theorem iteC {c d : Bool} {A B : Prop} (e : c = d) (h : if d = true then A else B) : if c = true then A else B := by
  rw [e]
  exact h
def oV : Option Int → V
  | none => .non
  | some n => .int n
theorem bare_len (l : List Nat) : (bare l).length ≤ l.length := by
  unfold bare
  split
  · rw [List.length_drop]
    omega
  · exact Nat.le_refl _
theorem sl_le {n : Nat} (h : n ≤ 100000) : n ≤ sizeLine := Nat.le_trans h (by decide)
theorem sl_lt {n : Nat} (h : n ≤ 100000) : n < sizeLine := Nat.lt_of_le_of_lt h (by decide)
def spWholeOf : Sp := fun vs H Q _ => ∃ l : List Nat, vs = [.str (SX.S l)] ∧ l.length ≤ 100000 ∧ ∀ H', Same H H' → Q (oV (wholeL l)) H'
theorem wholeL_some {l : List Nat} (h : figd l) (e : itx (valL l) = l) : oV (wholeL l) = .int (valL l) := by
  unfold wholeL
  rw [if_pos ((figd_numb h).mp e)]
  rfl
theorem wholeL_none1 {l : List Nat} (h : ¬ figd l) : oV (wholeL l) = .non := by
  unfold wholeL
  rw [not_figd h]
  rfl
theorem wholeL_none2 {l : List Nat} (h : figd l) (e : ¬ itx (valL l) = l) : oV (wholeL l) = .non := by
  unfold wholeL
  rw [if_neg (fun z => e ((figd_numb h).mpr z))]
  rfl
theorem eq_S (a b : List Nat) : decide (V.str (SX.S a) = V.str (SX.S b)) = decide (a = b) := by
  by_cases h : a = b
  · rw [h, decide_eq_true rfl, decide_eq_true rfl]
  · rw [decide_eq_false h, decide_eq_false]
    exact fun z => h (SX.S_inj (V.str.inj z))
/-- which signs of a text are such -/
def tSign (i : Nat) : TE := tOp (fun x y H Q => ∃ (c : Nat) (z : Str), x = .str ⟨#[c]⟩ ∧ y = .str z ∧ Q (.bl (decide (c ∈ z.cps.toList))) H) (tVar i) (tC (.str "0123456789"))
theorem at_S {l : List Nat} {i c : Nat} (h : (SX.S l).cps[i]? = some c) : l[i]? = some c := by
  have e : (SX.S l).cps[i]? = l[i]? := by simp [SX.S]
  rw [← e]
  exact h
theorem size_S (l : List Nat) : (SX.S l).cps.size = l.length := by simp [SX.S]
/-- a list of marks grows by one -/
theorem marks_grow {l : List Nat} {i c : Nat} {p : Nat → Bool} {H H4 : Hp} {Da : Addr} (hl : l.length ≤ 100000) (hD : H Da = none) (s4 : Same H H4) (hD4 : H4 Da = some (.lst ((l.take i).map fun c => V.bl (p c)))) (hc : l[i]? = some c) :
    ∃ acc, H4 Da = some (.lst acc) ∧ acc.length < sizeLine ∧ Same H (upd H4 Da (.lst (acc ++ [V.bl (p c)]))) ∧ (upd H4 Da (.lst (acc ++ [V.bl (p c)]))) Da = some (.lst ((l.take (i + 1)).map fun c => V.bl (p c))) := by
  refine ⟨_, hD4, ?_, fun b' o' e' => ?_, ?_⟩
  · rw [List.length_map, List.length_take]
    exact sl_lt (by omega)
  · rw [upd_ne (ne_of_none e' hD)]
    exact s4 _ _ e'
  · rw [upd_same, List.take_add_one, hc, List.map_append]
    rfl
section
variable {P : Program} {w : World} {K : PySem.W.Frag} {mg : Str → Option Value} {base : Heap}
theorem sc_whole_of : FnScope ["text", "figures", "number", "sign"] ["text"] (defScope s_whole_of) := ⟨rfl, rfl, rfl, by decide +kernel, rfl, by decide +kernel, by decide +kernel⟩
theorem ok_whole_of {f : Addr} {fd : FuncData} {k : Nat} (F : Fun K "whole_of" "whole_of" s_whole_of f fd) (z : Zs mg) {TF TM : Tok} (g_FIGURES : mg "FIGURES" = some (.str "0123456789" TF)) (g_MOST_FIGURES : mg "MOST_FIGURES" = some (.int 400 TM)) : FnOk P w K mg base CX0 (k + 1) f fd ["text"] spWholeOf := by
  refine F.ok sc_whole_of (fun vs H Q E h => ?_) (fun cdv A outer s H vs Q E hr h => ?_)
  · obtain ⟨l, rfl, _⟩ := h
    rfl
  · obtain ⟨l, rfl, hl, q⟩ := h
    refine ⟨_, (pss_cons (ps_set (i := 1) sc_whole_of.nd rfl (.inl rfl) (pe_bm PySem.F.plainAttrs_str PySem.F.slot_str_removeprefix PySem.F.type_str_removeprefix mt_removeprefix (pv 0) (pa_cons pe_str pa_nil)))
      (pss_cons (ps_if (PW.pt (pw_or (pt_not (pt_chain op_le op_le pe_int (pe_callB call_len_str (by rfl) z.len PySem.boot_len (pa_cons (pv 1) pa_nil)) (pe_glob (v := .int 400) (by rfl) g_MOST_FIGURES ⟨_, rfl⟩))) (pw_or1 (pt_not (pt_val (pe_callB (cr_all rfl) (by rfl) z.all (by decide +kernel) (pa_cons (pe_lc (own := [("sign", 3)]) (g := gName 3) (tt := tYes) (te := tSign 3) (by rfl) sc_whole_of.nd (pi_str (pv 1)) (blkOk_by (own := [("sign", 3)]) (N := ["text", "figures", "number", "sign"]) (sc := defScope s_whole_of) (by decide +kernel)) (fun _ _ _ _ _ => by exact (pg_name (i := 3) sc_whole_of.nd rfl (.inl rfl))) (fun _ _ _ _ _ => by exact pts_nil) (fun _ _ _ _ _ => by exact (pe_cmpR op_in_sign (pv 3) (pe_glob (v := .str "0123456789") (by rfl) g_FIGURES ⟨_, rfl⟩) (by rfl)))) pa_nil))))))) (pss_one (ps_ret pe_non)) pss_nil)
      (pss_cons (ps_set (i := 2) sc_whole_of.nd rfl (.inl rfl) (pe_callTy call_int_str (by rfl) z.int (by decide +kernel) (pa_cons (pv 0) pa_nil)))
      (pss_one (ps_ret (pe_ifExp (pt_cmpR op_eq (pe_joined1 (pe_fmt (pv 2))) (pv 0) (nomark _)) (pv 2) pe_non)))))), ?_⟩
    have bl := bare_len l
    have sb : (SX.S (bare l)).length = (bare l).length := SX.S_len _
    refine ⟨_, rfl, rfl, _, _, rfl, rfl, (by rw [SX.S_len]; exact sl_le hl), ?_⟩
    rw [bare_S]
    refine ⟨_, rfl, _, rfl, (by rw [sb]; exact sl_le (by omega)), _, _, rfl, rfl, _, rfl, ?_⟩
    rw [sb]
    have no : ∀ H', Same H H' → ¬ figd l → Q .non H' := fun H' s hf => by
      rw [← wholeL_none1 hf]
      exact q H' s
    refine ite2 (fun c1 => ⟨_, _, rfl, rfl, _, rfl, ?_⟩) (fun c1 => ⟨_, rfl, iteT (no _ (Same.refl _) fun hf => c1 (decide_eq_true (by have := hf.1; omega)))⟩)
    refine iteN (fun c2 => no _ (Same.refl _) fun hf => c2 (by have := hf.2.1; omega)) (fun c2 => ?_)
    refine ⟨_, rfl, _, rfl, fun Da hD => ?_⟩
    refine lc_it (walk_str (z := SX.S (bare l))) (fun i H4 => Same H H4 ∧ H4 Da = some (.lst (((bare l).take i).map fun c => V.bl (decide (48 ≤ c) && decide (c ≤ 57))))) ⟨same_new hD, upd_same⟩ (fun _ _ _ _ => trivial) (fun i x' H4 H5 hi hP hy => ?_) (fun H4 hP => ?_)
    · obtain ⟨s4, hD4⟩ := hP
      obtain ⟨rfl, c, hcc, rfl⟩ := hy
      refine ⟨rfl, _, rfl, c, _, rfl, rfl, ?_⟩
      rw [figs_mem]
      exact marks_grow (p := fun c => decide (48 ≤ c) && decide (c ≤ 57)) (by omega) hD s4 hD4 (at_S hcc)
    · obtain ⟨s4, hD4⟩ := hP
      rw [size_S, List.take_length] at hD4
      refine ⟨Da, (bare l).map (fun c => decide (48 ≤ c) && decide (c ≤ 57)), rfl, SqL.of (by rw [hD4, List.map_map]; rfl), ?_⟩
      rw [List.all_map]
      by_cases hf : figd l
      · have e1 : ((bare l).all (id ∘ fun c => decide (48 ≤ c) && decide (c ≤ 57))) = true := all_dig.mpr hf.2.2
        refine ⟨_, rfl, iteC (d := false) (by rw [e1]; rfl) (iteF ?_)⟩
        refine ⟨_, rfl, _, _, rfl, valL_int hf, (by rw [SX.S_len]; have := figd_len hf; omega), ?_⟩
        refine ⟨_, rfl, .inr ⟨_, rfl, log_val hf, ?_⟩⟩
        rw [int_itx]
        refine ⟨_, rfl, rfl, ?_⟩
        rw [eq_S]
        by_cases ht : itx (valL l) = l
        · rw [decide_eq_true ht]
          refine ⟨_, rfl, iteT ⟨_, rfl, ?_⟩⟩
          rw [← wholeL_some hf ht]
          exact q _ s4
        · rw [decide_eq_false ht]
          refine ⟨_, rfl, iteF ?_⟩
          have := q _ s4
          rw [wholeL_none2 hf ht] at this
          exact this
      · have e1 : ((bare l).all (id ∘ fun c => decide (48 ≤ c) && decide (c ≤ 57))) = false := by
          cases e : (bare l).all fun c => decide (48 ≤ c) && decide (c ≤ 57) with
          | false => exact e
          | true => exact absurd ⟨by have := toB c1; omega, by omega, all_dig.mp e⟩ hf
        exact ⟨_, rfl, iteC (d := true) (by rw [e1]; rfl) (iteT (no _ s4 hf))⟩
end
end E1

namespace E1
open PySem PySem.Spec PyProof.Rows L2

theorem Same.sqL {K : PySem.W.Frag} {H H' : Hp} {a : Addr} {xs : List V} (e : Same H H') (h : SqL K H a xs) : SqL K H' a xs := by
  rcases h with (h | ⟨o, h⟩) | h
  · exact .inl (.inl (e _ _ h))
  · exact .inl (.inr ⟨o, e _ _ h⟩)
  · exact .inr h
abbrev sV (l : List Nat) : V := .str (SX.S l)
def wholesL (ls : List (List Nat)) : Option (List Int) := if ls.all numb = true then some (ls.map valL) else none
def spWholesOf (K : PySem.W.Frag) : Sp := fun vs H Q _ => ∃ (a : Addr) (ls : List (List Nat)), vs = [.ref a] ∧ SqL K H a (ls.map sV) ∧ (∀ l ∈ ls, l.length ≤ 100000) ∧ ls.length ≤ 100000 ∧
  ∀ H', Same H H' → (wholesL ls = none → Q .non H') ∧ (∀ p ns, wholesL ls = some ns → H p = none → H' p = some (.lst (ns.map V.int)) → Q (.ref p) H')
theorem whole_flat (l : List Nat) : flatV (oV (wholeL l)) = true := by
  cases wholeL l <;> rfl
theorem whole_is (l : List Nat) : eqV (oV (wholeL l)) .non = !numb l := by
  unfold wholeL
  cases h : numb l
  · rfl
  · rfl
theorem wholes_in (ls : List (List Nat)) : inV .non (ls.map fun l => oV (wholeL l)) = !(ls.all numb) := by
  unfold inV
  rw [List.any_map, List.not_all_eq_any_not]
  congr 1
  funext l
  exact whole_is l
theorem wholes_int {ls : List (List Nat)} (h : ls.all numb = true) : (ls.map fun l => oV (wholeL l)) = (ls.map valL).map V.int := by
  rw [List.map_map]
  refine List.map_congr_left fun l hl => ?_
  have := List.all_eq_true.mp h l hl
  unfold wholeL
  rw [if_pos this]
  rfl
/-- a list of things grows by one -/
theorem list_grow {α : Type} {l : List α} {i : Nat} {c : α} {p : α → V} {H H4 H5 : Hp} {Da : Addr} (hl : l.length ≤ 100000) (hD : H Da = none) (s4 : Same H H4) (hD4 : H4 Da = some (.lst ((l.take i).map p))) (s5 : Same H4 H5) (hc : l[i]? = some c) :
    ∃ acc, H5 Da = some (.lst acc) ∧ acc.length < sizeLine ∧ Same H (upd H5 Da (.lst (acc ++ [p c]))) ∧ (upd H5 Da (.lst (acc ++ [p c]))) Da = some (.lst ((l.take (i + 1)).map p)) := by
  refine ⟨_, s5 _ _ hD4, ?_, fun b' o' e' => ?_, ?_⟩
  · rw [List.length_map, List.length_take]
    exact sl_lt (by omega)
  · rw [upd_ne (ne_of_none e' hD)]
    exact s5 _ _ (s4 _ _ e')
  · rw [upd_same, List.take_add_one, hc, List.map_append]
    rfl
theorem emp_S (a : List Nat) : Str.empty ++ SX.S a = SX.S a := SX.S_cat [] a
theorem slash_S : Str.ofString "/" = SX.S [47] := rfl
def spIsFr : Sp := fun vs H Q _ => ∃ (a : Addr) (t u : Int), vs = [.ref a] ∧ H a = some (.tup [.int t, .int u]) ∧ Q (.bl (decide (1 ≤ u ∧ gI t u = 1))) H
def fracT (t u : Int) : List Nat := if u = 1 then itx t else itx t ++ 47 :: itx u
theorem itx_len {n : Int} (h : n.natAbs < 10 ^ 400) : (itx n).length ≤ 401 := figd_len (itx_figd h).1
def spShowF (K : PySem.W.Frag) : Sp := fun vs H Q _ => ∃ (a : Addr) (t u : Int), vs = [.ref a] ∧ SqT K H a [.int t, .int u] ∧ t.natAbs < 10 ^ 400 ∧ u.natAbs < 10 ^ 400 ∧ Q (sV (fracT t u)) H
def wayT (ns : List Int) : List Nat := TL.joinL [32] (ns.map itx)
def spShowW (K : PySem.W.Frag) : Sp := fun vs H Q _ => ∃ (a : Addr) (ns : List Int), vs = [.ref a] ∧ SqL K H a (ns.map V.int) ∧ (∀ n ∈ ns, n.natAbs < 10 ^ 400) ∧ ns.length ≤ 1000 ∧ ∀ H', Same H H' → Q (sV (wayT ns)) H'
def spShowWT (K : PySem.W.Frag) : Sp := fun vs H Q _ => ∃ (a : Addr) (ns : List Int), vs = [.ref a] ∧ SqT K H a (ns.map V.int) ∧ (∀ n ∈ ns, n.natAbs < 10 ^ 400) ∧ ns.length ≤ 1000 ∧ ∀ H', Same H H' → Q (sV (wayT ns)) H'
theorem sum_le : ∀ (ns : List Int), (∀ n ∈ ns, n.natAbs < 10 ^ 400) → ((ns.map fun n => SX.S (itx n)).map (·.length)).sum ≤ 401 * ns.length
  | [], _ => by simp
  | n :: r, h => by
    have := itx_len (h n (List.mem_cons_self ..))
    have ih := sum_le r (fun m hm => h m (List.mem_cons_of_mem _ hm))
    simp only [List.map_cons, List.sum_cons, List.length_cons, SX.S_len] at ih ⊢
    omega
def Raised (C : Addr) (fld : Str) (H : Hp) (E : XK) : Prop := ∀ d H', Same H H' → H' d = some (.xd [(fld, .int 0)]) → E (.ref C) (some d) H'
/-- a thing that is no text -/
def NoTxt (K : PySem.W.Frag) (H : Hp) (x : V) : Prop := ∃ t : String, TyX K H x (.type t) ∧ kitB t "str" = some false
def spCheck (K : PySem.W.Frag) (CT : Addr) : Sp := fun vs H Q E => ∃ x : V, vs = [x] ∧ ((∃ z, x = .str z ∧ Q .non H) ∨ (NoTxt K H x ∧ Raised CT "line" H E))
/-- a way as a text, read -/
def readW (l : List Nat) : Option (List Int) := if l = [] then some [] else wholesL (TL.spl [32] 0 [] l)
def spReadW (K : PySem.W.Frag) (CT : Addr) : Sp := fun vs H Q E => ∃ x : V, vs = [x] ∧ ((∃ l, x = sV l ∧ l.length ≤ 90000 ∧ (∀ p H' ns, readW l = some ns → Same H H' → H p = none → H' p = some (.lst (ns.map V.int)) → Q (.ref p) H') ∧ (readW l = none → Raised CT "line" H E)) ∨ (NoTxt K H x ∧ Raised CT "line" H E))
/-- a fraction as a text, read -/
def readFs : List (List Nat) → Option (Int × Int)
  | [a] => if numb a = true then some (valL a, 1) else none
  | [a, b] => if (numb a && numb b) = true ∧ ¬ valL b = 1 ∧ 1 ≤ valL b ∧ gI (valL a) (valL b) = 1 then some (valL a, valL b) else none
  | _ => none
def readF (l : List Nat) : Option (Int × Int) := readFs (TL.spl [47] 0 [] l)
def spReadF (K : PySem.W.Frag) (CT : Addr) : Sp := fun vs H Q E => ∃ x : V, vs = [x] ∧ ((∃ l, x = sV l ∧ l.length ≤ 90000 ∧ (∀ p H' t u, readF l = some (t, u) → Same H H' → H p = none → H' p = some (.tup [.int t, .int u]) → Q (.ref p) H') ∧ (readF l = none → Raised CT "line" H E)) ∨ (NoTxt K H x ∧ Raised CT "line" H E))
theorem spl_sizes (s : Nat) : ∀ (l acc : List Nat), (TL.spl [s] 0 acc l).length ≤ l.length + 1 ∧ ∀ p ∈ TL.spl [s] 0 acc l, p.length ≤ acc.length + l.length
  | [], acc => by
    rw [TL.spl_nil]
    exact ⟨Nat.le_refl _, fun p hp => by rw [List.mem_singleton.mp hp]; exact Nat.le_refl _⟩
  | c :: r, acc => by
    cases h : TL.pre [s] (c :: r) with
    | true =>
      rw [TL.spl_hit h]
      obtain ⟨a, b⟩ := spl_sizes s r []
      refine ⟨?_, fun p hp => ?_⟩
      · have : (TL.spl [s] 0 [] r).length ≤ r.length + 1 := a
        show (acc :: TL.spl [s] 0 [] r).length ≤ _
        rw [List.length_cons, List.length_cons]
        omega
      · rcases List.mem_cons.mp hp with rfl | hp
        · omega
        · have : p.length ≤ ([] : List Nat).length + r.length := b p hp
          rw [List.length_nil] at this
          rw [List.length_cons]
          omega
    | false =>
      rw [TL.spl_miss h]
      obtain ⟨a, b⟩ := spl_sizes s r (acc ++ [c])
      refine ⟨by rw [List.length_cons]; omega, fun p hp => ?_⟩
      have := b p hp
      rw [List.length_append, List.length_singleton] at this
      rw [List.length_cons]
      omega
section
variable {P : Program} {w : World} {K : PySem.W.Frag} {mg : Str → Option Value} {base : Heap}
theorem sc_is_fraction : FnScope ["thing", "top", "bottom"] ["thing"] (defScope s_is_fraction) := ⟨rfl, rfl, rfl, by decide +kernel, rfl, by decide +kernel, by decide +kernel⟩
theorem ok_is_fraction {f : Addr} {fd : FuncData} (F : Fun K "is_fraction" "is_fraction" s_is_fraction f fd) (z : Zs mg) (c_is_whole : Cal P w K mg base 1 "is_whole" ["thing"] (spWhole K)) (c_shared_divisor : Cal P w K mg base 1 "shared_divisor" ["top", "bottom"] spShared) : FnOk P w K mg base CX0 2 f fd ["thing"] spIsFr := by
  refine F.ok sc_is_fraction (fun vs H Q E h => ?_) (fun cdv A outer s H vs Q E hr h => ?_)
  · obtain ⟨a, t, u, rfl, _⟩ := h
    rfl
  · obtain ⟨a, t, u, rfl, ha, q⟩ := h
    refine ⟨_, (pss_cons (ps_if (PW.pt (pw_or (pt_not (pt_val (pe_callB call_isi (by rfl) z.isinstance (by decide +kernel) (pa_cons (pv 0) (pa_cons (pe_bltn (v := .ty "tuple") (by rfl) z.tuple (by decide +kernel) rfl) pa_nil))))) (pw_or1 (pt_cmpR op_ne (pe_callB call_len_seq (by rfl) z.len PySem.boot_len (pa_cons (pv 0) pa_nil)) pe_int (nomark _))))) (pss_one (ps_ret pe_bl)) pss_nil)
      (pss_cons (ps_asg (pv 0) (pg_tup (by rfl) (pgs_cons (pg_name (i := 1) sc_is_fraction.nd rfl (.inl rfl)) (pgs_cons (pg_name (i := 2) sc_is_fraction.nd rfl (.inl rfl)) pgs_nil))))
      (pss_cons (ps_if (PW.pt (pw_or (pt_not (pt_val (pe_cal c_is_whole hr (pa_cons (pv 1) pa_nil)))) (pw_or (pt_not (pt_val (pe_cal c_is_whole hr (pa_cons (pv 2) pa_nil)))) (pw_or1 (pt_cmpR op_lt (pv 2) pe_int (nomark _)))))) (pss_one (ps_ret pe_bl)) pss_nil)
      (pss_one (ps_ret (pe_cmpR op_eq (pe_cal c_shared_divisor hr (pa_cons (pv 1) (pa_cons (pv 2) pa_nil))) pe_int (nomark _))))))), ?_⟩
    refine ⟨_, rfl, _, .ty "tuple", _, _, true, rfl, .ty _, .base (.tup ha), kit_ty (by decide +kernel), _, rfl, iteF ⟨_, rfl, a, _, rfl, .inr (SqT.of ha), rfl, _, rfl, iteF ?_⟩⟩
    refine ⟨_, rfl, a, _, rfl, SqT.of ha, rfl, _, _, rfl, _, _, rfl, rfl, ?_⟩
    refine ⟨_, rfl, _, _, rfl, .int t, _, rfl, iteF ⟨_, rfl, _, _, rfl, .int u, _, rfl, iteF ⟨_, rfl, _, _, rfl, rfl, _, rfl, ite2 (fun c => ?_) (fun c => ?_)⟩⟩⟩
    · have := toB c
      rw [decide_eq_false (show ¬ (1 ≤ u ∧ gI t u = 1) by omega)] at q
      exact q
    · have := toNB c
      refine ⟨_, rfl, _, rfl, t, u, rfl, by omega, rfl, ?_⟩
      have e : (decide (V.int (gI t u) = V.int 1)) = decide (1 ≤ u ∧ gI t u = 1) := by
        by_cases h : gI t u = 1
        · rw [decide_eq_true (show 1 ≤ u ∧ gI t u = 1 from ⟨by omega, h⟩), h]
          rfl
        · rw [decide_eq_false (show ¬ (1 ≤ u ∧ gI t u = 1) from fun z => h z.2), decide_eq_false (fun z => h (V.int.inj z))]
      rw [e]
      exact q
theorem sc_wholes_of : FnScope ["texts", "numbers", "text"] ["texts"] (defScope s_wholes_of) := ⟨rfl, rfl, rfl, by decide +kernel, rfl, by decide +kernel, by decide +kernel⟩
theorem ok_wholes_of {f : Addr} {fd : FuncData} (F : Fun K "wholes_of" "wholes_of" s_wholes_of f fd) (c_whole_of : Cal P w K mg base 1 "whole_of" ["text"] spWholeOf) : FnOk P w K mg base CX0 2 f fd ["texts"] (spWholesOf K) := by
  refine F.ok sc_wholes_of (fun vs H Q E h => ?_) (fun cdv A outer s H vs Q E hr h => ?_)
  · obtain ⟨a, ls, rfl, _⟩ := h
    rfl
  · obtain ⟨a, ls, rfl, hS, h1, h2, q⟩ := h
    refine ⟨_, (pss_cons (ps_setLc (i := 1) (own := [("text", 2)]) (g := gName 2) (tt := tYes) (te := (tCall spWholeOf [] E0 (tCons (tVar 2) tNil))) (by rfl) sc_wholes_of.nd rfl rfl (sw_true rfl rfl rfl (by decide +kernel)) (pi_list (pv 0)) (blkOk_by (own := [("text", 2)]) (N := ["texts", "numbers", "text"]) (sc := defScope s_wholes_of) (by decide +kernel)) (fun _ _ _ _ _ => by exact (pg_name (i := 2) sc_wholes_of.nd rfl (.inl rfl))) (fun _ _ _ _ _ => by exact pts_nil) (fun _ _ _ _ _ => by exact (pe_cal c_whole_of hr (pa_cons (pv 2) pa_nil))))
      (pss_one (ps_ret (pe_ifExp (pt_cmpR op_in_seq pe_non (pv 1) (by rfl)) pe_non (pv 1))))), ?_⟩
    refine ⟨_, rfl, _, rfl, ⟨_, hS⟩, fun Da hD => ?_⟩
    refine lc_it (walk_list (K := K) (a := a) (xs := ls.map sV)) (fun i H4 => Same H H4 ∧ H4 Da = some (.lst ((ls.take i).map fun l => oV (wholeL l)))) ⟨same_new hD, upd_same⟩ (fun i H4 hi hP => Same.sqL hP.1 hS) (fun i x' H4 H5 hi hP hy => ?_) (fun H4 hP => ?_)
    · obtain ⟨s4, hD4⟩ := hP
      obtain ⟨rfl, hx⟩ := hy
      rw [List.getElem?_map] at hx
      obtain ⟨l, hl, rfl⟩ := Option.map_eq_some_iff.mp hx
      refine ⟨rfl, _, rfl, l, rfl, h1 l (List.mem_of_getElem? hl), fun H6 s6 => ?_⟩
      exact list_grow (p := fun l => oV (wholeL l)) h2 hD s4 hD4 s6 hl
    · obtain ⟨s4, hD4⟩ := hP
      rw [List.length_map, List.take_length] at hD4
      obtain ⟨q1, q2⟩ := q H4 s4
      refine ⟨_, rfl, Da, _, rfl, .inl (SqL.of hD4), rfl, ?_, _, rfl, ?_⟩
      · rw [List.all_map, List.all_eq_true]
        exact fun l _ => whole_flat l
      · show if inV .non _ = true then _ else _
        rw [wholes_in]
        cases e : ls.all numb with
        | true =>
          refine iteF ⟨_, rfl, q2 _ (ls.map valL) ?_ hD ?_⟩
          · unfold wholesL
            rw [if_pos e]
          · rw [hD4, wholes_int e]
        | false =>
          refine iteT (q1 ?_)
          unfold wholesL
          rw [e]
          rfl
theorem sc_show_fraction : FnScope ["one", "top", "bottom"] ["one"] (defScope s_show_fraction) := ⟨rfl, rfl, rfl, by decide +kernel, rfl, by decide +kernel, by decide +kernel⟩
theorem ok_show_fraction {f : Addr} {fd : FuncData} {k : Nat} (F : Fun K "show_fraction" "show_fraction" s_show_fraction f fd) : FnOk P w K mg base CX0 (k + 1) f fd ["one"] (spShowF K) := by
  refine F.ok sc_show_fraction (fun vs H Q E h => ?_) (fun cdv A outer s H vs Q E hr h => ?_)
  · obtain ⟨a, t, u, rfl, _⟩ := h
    rfl
  · obtain ⟨a, t, u, rfl, hS, ht, hu, q⟩ := h
    refine ⟨_, (pss_cons (ps_asg (pv 0) (pg_tup (by rfl) (pgs_cons (pg_name (i := 1) sc_show_fraction.nd rfl (.inl rfl)) (pgs_cons (pg_name (i := 2) sc_show_fraction.nd rfl (.inl rfl)) pgs_nil))))
      (pss_one (ps_ret (pe_ifExp (pt_cmpR op_eq (pv 2) pe_int (nomark _)) (pe_joined1 (pe_fmt (pv 1))) (pe_joined (.cons (pe_fmt (pv 1)) (.cons pe_str (.cons (pe_fmt (pv 2)) .nil)))))))), ?_⟩
    have lt := itx_len ht
    have lu := itx_len hu
    refine ⟨_, rfl, a, _, rfl, hS, rfl, _, _, rfl, _, _, rfl, rfl, ?_⟩
    unfold fracT at q
    refine ⟨_, rfl, rfl, _, rfl, ?_⟩
    by_cases c : u = 1
    · refine iteC (d := true) (by rw [c]; rfl) (iteT ⟨_, rfl, .inr ⟨_, rfl, log_ten ht, ?_⟩⟩)
      rw [if_pos c] at q
      rw [int_itx]
      exact q
    · refine iteC (d := false) (by rw [decide_eq_false_iff_not]; exact fun z => c (V.int.inj z)) (iteF ⟨_, rfl, .inr ⟨_, rfl, log_ten ht, _, rfl, ?_, _, rfl, ?_, _, rfl, .inr ⟨_, rfl, log_ten hu, _, rfl, ?_, ?_⟩⟩⟩)
      · rw [int_itx, emp_S, SX.S_len]
        exact sl_le (by omega)
      · rw [int_itx, emp_S, slash_S, SX.S_cat, SX.S_len, List.length_append]
        exact sl_le (by simp only [List.length_singleton]; omega)
      · rw [int_itx, int_itx, emp_S, slash_S, SX.S_cat, SX.S_cat, SX.S_len, List.length_append, List.length_append]
        exact sl_le (by simp only [List.length_singleton]; omega)
      · rw [int_itx, int_itx, emp_S, slash_S, SX.S_cat, SX.S_cat, List.append_assoc]
        rw [if_neg c] at q
        exact q
theorem sc_show_way : FnScope ["words", "word"] ["words"] (defScope s_show_way) := ⟨rfl, rfl, rfl, by decide +kernel, rfl, by decide +kernel, by decide +kernel⟩
theorem ok_show_way {f : Addr} {fd : FuncData} {k : Nat} (F : Fun K "show_way" "show_way" s_show_way f fd) : FnOk P w K mg base CX0 (k + 1) f fd ["words"] (spShowW K) := by
  refine F.ok sc_show_way (fun vs H Q E h => ?_) (fun cdv A outer s H vs Q E hr h => ?_)
  · obtain ⟨a, ns, rfl, _⟩ := h
    rfl
  · obtain ⟨a, ns, rfl, hS, h1, h2, q⟩ := h
    refine ⟨_, (pss_one (ps_ret (pe_join pe_str (pe_lc (own := [("word", 1)]) (g := gName 1) (tt := tYes) (te := tFmt (tVar 1)) (by rfl) sc_show_way.nd (pi_list (pv 0)) (blkOk_by (own := [("word", 1)]) (N := ["words", "word"]) (sc := defScope s_show_way) (by decide +kernel)) (fun _ _ _ _ _ => by exact (pg_name (i := 1) sc_show_way.nd rfl (.inl rfl))) (fun _ _ _ _ _ => by exact pts_nil) (fun _ _ _ _ _ => by exact (pe_joined1 (pe_fmt (pv 1)))))))), ?_⟩
    refine ⟨⟨_, rfl⟩, _, rfl, _, rfl, ⟨_, hS⟩, fun Da hD => ?_⟩
    refine lc_it (walk_list (K := K) (a := a) (xs := ns.map V.int)) (fun i H4 => Same H H4 ∧ H4 Da = some (.lst ((ns.take i).map fun n => sV (itx n)))) ⟨same_new hD, upd_same⟩ (fun i H4 hi hP => Same.sqL hP.1 hS) (fun i x' H4 H5 hi hP hy => ?_) (fun H4 hP => ?_)
    · obtain ⟨s4, hD4⟩ := hP
      obtain ⟨rfl, hx⟩ := hy
      rw [List.getElem?_map] at hx
      obtain ⟨n, hn, rfl⟩ := Option.map_eq_some_iff.mp hx
      refine ⟨rfl, _, rfl, .inr ⟨n, rfl, log_ten (h1 n (List.mem_of_getElem? hn)), ?_⟩⟩
      rw [int_itx]
      exact list_grow (p := fun n => sV (itx n)) (by omega) hD s4 hD4 (Same.refl _) hn
    · obtain ⟨s4, hD4⟩ := hP
      rw [List.length_map, List.take_length] at hD4
      refine ⟨_, Da, ns.map fun n => SX.S (itx n), rfl, rfl, .inl (SqL.of (by rw [hD4, List.map_map]; rfl)), ?_, ?_⟩
      · have := sum_le ns h1
        have e1 : (Str.ofString " ").length = 1 := rfl
        rw [List.length_map, e1]
        omega
      · have e := SX.join_S [32] (ns.map itx)
        rw [List.map_map] at e
        show Q (.str (Txt.join (SX.S [32]) (ns.map (SX.S ∘ itx)))) H4
        rw [e]
        exact q _ s4
theorem ok_show_wayT {f : Addr} {fd : FuncData} {k : Nat} (F : Fun K "show_way" "show_way" s_show_way f fd) : FnOk P w K mg base CX0 (k + 1) f fd ["words"] (spShowWT K) := by
  refine F.ok sc_show_way (fun vs H Q E h => ?_) (fun cdv A outer s H vs Q E hr h => ?_)
  · obtain ⟨a, ns, rfl, _⟩ := h
    rfl
  · obtain ⟨a, ns, rfl, hS, h1, h2, q⟩ := h
    refine ⟨_, (pss_one (ps_ret (pe_join pe_str (pe_lc (own := [("word", 1)]) (g := gName 1) (tt := tYes) (te := tFmt (tVar 1)) (by rfl) sc_show_way.nd (pi_tup (pv 0)) (blkOk_by (own := [("word", 1)]) (N := ["words", "word"]) (sc := defScope s_show_way) (by decide +kernel)) (fun _ _ _ _ _ => by exact (pg_name (i := 1) sc_show_way.nd rfl (.inl rfl))) (fun _ _ _ _ _ => by exact pts_nil) (fun _ _ _ _ _ => by exact (pe_joined1 (pe_fmt (pv 1)))))))), ?_⟩
    refine ⟨⟨_, rfl⟩, _, rfl, _, rfl, ⟨_, hS⟩, fun Da hD => ?_⟩
    refine lc_it (walk_tup (K := K) (a := a) (xs := ns.map V.int)) (fun i H4 => Same H H4 ∧ H4 Da = some (.lst ((ns.take i).map fun n => sV (itx n)))) ⟨same_new hD, upd_same⟩ (fun i H4 hi hP => Same.tup hP.1 hS) (fun i x' H4 H5 hi hP hy => ?_) (fun H4 hP => ?_)
    · obtain ⟨s4, hD4⟩ := hP
      obtain ⟨rfl, hx⟩ := hy
      rw [List.getElem?_map] at hx
      obtain ⟨n, hn, rfl⟩ := Option.map_eq_some_iff.mp hx
      refine ⟨rfl, _, rfl, .inr ⟨n, rfl, log_ten (h1 n (List.mem_of_getElem? hn)), ?_⟩⟩
      rw [int_itx]
      exact list_grow (p := fun n => sV (itx n)) (by omega) hD s4 hD4 (Same.refl _) hn
    · obtain ⟨s4, hD4⟩ := hP
      rw [List.length_map, List.take_length] at hD4
      refine ⟨_, Da, ns.map fun n => SX.S (itx n), rfl, rfl, .inl (SqL.of (by rw [hD4, List.map_map]; rfl)), ?_, ?_⟩
      · have := sum_le ns h1
        have e1 : (Str.ofString " ").length = 1 := rfl
        rw [List.length_map, e1]
        omega
      · have e := SX.join_S [32] (ns.map itx)
        rw [List.map_map] at e
        show Q (.str (Txt.join (SX.S [32]) (ns.map (SX.S ∘ itx)))) H4
        rw [e]
        exact q _ s4
theorem sc_check_text : FnScope ["thing"] ["thing"] (defScope s_check_text) := ⟨rfl, rfl, rfl, by decide +kernel, rfl, by decide +kernel, by decide +kernel⟩
theorem ok_check_text {f : Addr} {fd : FuncData} {k : Nat} {CT fI : Addr} (EC : PySem.ErrX.ErrC K mg "NoText" CT) (IO : PySem.ErrX.IniOk P w K mg CT fI "line") (F : Fun K "check_text" "check_text" s_check_text f fd) (z : Zs mg) : FnOk P w K mg base (L2.CX P w) (k + 1) f fd ["thing"] (spCheck K CT) := by
  refine F.okX sc_check_text (fun vs H Q E h => ?_) (fun cdv A outer s H vs Q E hr h => ?_)
  · obtain ⟨x, rfl, _⟩ := h
    rfl
  · obtain ⟨x, rfl, h⟩ := h
    refine ⟨_, (pss_one (ps_if (pt_not (pt_val (pe_callB call_isi (by rfl) z.isinstance (by decide +kernel) (pa_cons (pv 0) (pa_cons (pe_bltn (v := .ty "str") (by rfl) z.str (by decide +kernel) rfl) pa_nil))))) (pss_one (ps_raiseErr rfl EC IO hr (takes_of rfl rfl rfl rfl) (by exact (pa_cons pe_int pa_nil)))) pss_nil)), ?_⟩
    rcases h with ⟨y, rfl, q⟩ | ⟨⟨t, ty, kt⟩, q⟩
    · exact ⟨_, rfl, _, .ty "str", _, _, true, rfl, .ty _, .base (.str _), kit_ty (by decide +kernel), _, rfl, iteF q⟩
    · refine ⟨_, rfl, _, .ty "str", _, _, false, rfl, .ty _, ty, kit_ty kt, _, rfl, iteT ⟨_, rfl, .inr ⟨0, rfl, by decide, by decide⟩, fun d hd => q d _ (same_new hd) upd_same⟩⟩
end
end E1

namespace E1
open PySem PySem.Spec PyProof.Rows L2

theorem spl_ne (s : Nat) : ∀ (l acc : List Nat), TL.spl [s] 0 acc l ≠ []
  | [], acc => by
    rw [TL.spl_nil]
    exact List.cons_ne_nil _ _
  | c :: r, acc => by
    cases h : TL.pre [s] (c :: r) with
    | true =>
      rw [TL.spl_hit h]
      exact List.cons_ne_nil _ _
    | false =>
      rw [TL.spl_miss h]
      exact spl_ne s r _
theorem split_at (s : Nat) (hs : s < 256) (l : List Nat) : (Txt.split (SX.S l) (SX.S [s])).map V.str = (TL.spl [s] 0 [] l).map sV := by
  rw [SX.split_S (List.cons_ne_nil _ _) (by simp [hs]), List.map_map]
  rfl
theorem readFs_one (a : List Nat) : readFs [a] = if numb a = true then some (valL a, 1) else none := rfl
theorem readFs_two (a b : List Nat) : readFs [a, b] = if (numb a && numb b) = true ∧ ¬ valL b = 1 ∧ 1 ≤ valL b ∧ gI (valL a) (valL b) = 1 then some (valL a, valL b) else none := rfl
theorem wholes_one (a : List Nat) : wholesL [a] = if numb a = true then some [valL a] else none := by
  unfold wholesL
  rw [List.all_cons, List.all_nil, Bool.and_true]
  rfl
theorem wholes_two (a b : List Nat) : wholesL [a, b] = if (numb a && numb b) = true then some [valL a, valL b] else none := by
  unfold wholesL
  rw [List.all_cons, List.all_cons, List.all_nil, Bool.and_true]
  rfl
section
variable {P : Program} {w : World} {K : PySem.W.Frag} {mg : Str → Option Value} {base : Heap}
theorem sc_read_way : FnScope ["text", "numbers"] ["text"] (defScope s_read_way) := ⟨rfl, rfl, rfl, by decide +kernel, rfl, by decide +kernel, by decide +kernel⟩
theorem ok_read_way {f : Addr} {fd : FuncData} {CT fI : Addr} (EC : PySem.ErrX.ErrC K mg "NoText" CT) (IO : PySem.ErrX.IniOk P w K mg CT fI "line") (F : Fun K "read_way" "read_way" s_read_way f fd) (z : Zs mg) (c_wholes_of : Cal P w K mg base 2 "wholes_of" ["texts"] (spWholesOf K)) (c_check_text : CalX P w K mg base 1 "check_text" ["thing"] [] (spCheck K CT)) : FnOk P w K mg base (L2.CX P w) 3 f fd ["text"] (spReadW K CT) := by
  refine F.okX sc_read_way (fun vs H Q E h => ?_) (fun cdv A outer s H vs Q E hr h => ?_)
  · obtain ⟨x, rfl, _⟩ := h
    rfl
  · obtain ⟨x, rfl, h⟩ := h
    refine ⟨_, (pss_cons (ps_expr (pe_calxS c_check_text hr (takes_of rfl rfl rfl rfl) (pa_cons (pv 0) pa_nil)))
      (pss_cons (ps_set (i := 1) sc_read_way.nd rfl (.inl rfl) (pe_ifExp (pt_truth (pv 0) (by intro _; rfl)) (pe_cal c_wholes_of hr (pa_cons (pe_split (pv 0) pe_str) pa_nil)) (pe_lst pa_nil)))
      (pss_cons (ps_if (pt_cmpR op_isN (pv 1) pe_non (nomark _)) (pss_one (ps_raiseErr rfl EC IO hr (takes_of rfl rfl rfl rfl) (by exact (pa_cons pe_int pa_nil)))) pss_nil)
      (pss_one (ps_ret (pv 1)))))), ?_⟩
    rcases h with ⟨l, rfl, hl, q1, q2⟩ | ⟨ht, q⟩
    · refine ⟨_, rfl, _, rfl, .inl ⟨_, rfl, ?_⟩⟩
      unfold readW at q1 q2
      refine ⟨_, rfl, _, ⟨(by rw [SX.S_len]; exact sl_le (by omega)), rfl⟩, ?_⟩
      by_cases c : l = []
      · rw [if_pos c] at q1
        refine iteC (d := false) (by rw [c]; rfl) (iteF ⟨(by show 0 ≤ sizeLine; decide), fun p hp => ?_⟩)
        exact ⟨_, rfl, rfl, _, rfl, iteF ⟨_, rfl, q1 p _ [] rfl (same_new hp) hp upd_same⟩⟩
      · rw [if_neg c] at q1 q2
        refine iteC (d := true) ?_ (iteT ?_)
        · rw [bne_iff_ne, SX.S_len]
          have := List.length_pos_iff.mpr c
          omega
        obtain ⟨sz1, sz2⟩ := spl_sizes 32 l []
        refine ⟨_, rfl, ⟨_, rfl⟩, _, _, rfl, rfl, rfl, (by rw [SX.S_len]; exact sl_le (by omega)), fun p hp => ?_⟩
        have s1 := same_new (o := .lst ((Txt.split (SX.S l) (SX.S [32])).map V.str)) hp
        refine ⟨p, _, rfl, SqL.of (by rw [← split_at 32 (by decide) l]; exact upd_same), (fun m hm => by have := sz2 m hm; rw [List.length_nil] at this; omega), (by omega), fun H' s' => ⟨fun e => ?_, fun p2 ns e hp2 hl2 => ?_⟩⟩
        · refine ⟨_, rfl, rfl, _, rfl, iteT ?_⟩
          exact ⟨_, rfl, .inr ⟨0, rfl, by decide, by decide⟩, fun d hd => q2 e d _ ((s1.trans s').trans (same_new hd)) upd_same⟩
        · exact ⟨_, rfl, rfl, _, rfl, iteF ⟨_, rfl, q1 p2 _ ns e (s1.trans s') (s1.free hp2) hl2⟩⟩
    · exact ⟨_, rfl, _, rfl, .inr ⟨ht, q⟩⟩
theorem sc_read_fraction : FnScope ["text", "numbers"] ["text"] (defScope s_read_fraction) := ⟨rfl, rfl, rfl, by decide +kernel, rfl, by decide +kernel, by decide +kernel⟩
theorem ok_read_fraction {f : Addr} {fd : FuncData} {CT fI : Addr} (EC : PySem.ErrX.ErrC K mg "NoText" CT) (IO : PySem.ErrX.IniOk P w K mg CT fI "line") (F : Fun K "read_fraction" "read_fraction" s_read_fraction f fd) (z : Zs mg) (c_wholes_of : Cal P w K mg base 2 "wholes_of" ["texts"] (spWholesOf K)) (c_is_fraction : Cal P w K mg base 2 "is_fraction" ["thing"] spIsFr) (c_check_text : CalX P w K mg base 1 "check_text" ["thing"] [] (spCheck K CT)) : FnOk P w K mg base (L2.CX P w) 3 f fd ["text"] (spReadF K CT) := by
  refine F.okX sc_read_fraction (fun vs H Q E h => ?_) (fun cdv A outer s H vs Q E hr h => ?_)
  · obtain ⟨x, rfl, _⟩ := h
    rfl
  · obtain ⟨x, rfl, h⟩ := h
    refine ⟨_, (pss_cons (ps_expr (pe_calxS c_check_text hr (takes_of rfl rfl rfl rfl) (pa_cons (pv 0) pa_nil)))
      (pss_cons (ps_set (i := 1) sc_read_fraction.nd rfl (.inl rfl) (pe_cal c_wholes_of hr (pa_cons (pe_split (pv 0) pe_str) pa_nil)))
      (pss_cons (ps_if (PW.pt (pw_or (pt_cmpR op_isN (pv 1) pe_non (nomark _)) (pw_or1 (pt_cmpR op_gt (pe_callB call_len_seq (by rfl) z.len PySem.boot_len (pa_cons (pv 1) pa_nil)) pe_int (nomark _))))) (pss_one (ps_raiseErr rfl EC IO hr (takes_of rfl rfl rfl rfl) (by exact (pa_cons pe_int pa_nil)))) pss_nil)
      (pss_cons (ps_if (pt_cmpR op_eq (pe_callB call_len_seq (by rfl) z.len PySem.boot_len (pa_cons (pv 1) pa_nil)) pe_int (nomark _)) (pss_one (ps_ret (pe_tup (pa_cons (pe_ix ix_list (pv 1) pe_int (fun _ _ => rfl)) (pa_cons pe_int pa_nil))))) pss_nil)
      (pss_cons (ps_if (PW.pt (pw_or (pt_cmpR op_eq (pe_ix ix_list (pv 1) pe_int (fun _ _ => rfl)) pe_int (nomark _)) (pw_or1 (pt_not (pt_val (pe_cal c_is_fraction hr (pa_cons (pe_tup (pa_cons (pe_ix ix_list (pv 1) pe_int (fun _ _ => rfl)) (pa_cons (pe_ix ix_list (pv 1) pe_int (fun _ _ => rfl)) pa_nil))) pa_nil))))))) (pss_one (ps_raiseErr rfl EC IO hr (takes_of rfl rfl rfl rfl) (by exact (pa_cons pe_int pa_nil)))) pss_nil)
      (pss_one (ps_ret (pe_tup (pa_cons (pe_ix ix_list (pv 1) pe_int (fun _ _ => rfl)) (pa_cons (pe_ix ix_list (pv 1) pe_int (fun _ _ => rfl)) pa_nil)))))))))), ?_⟩
    rcases h with ⟨l, rfl, hl, q1, q2⟩ | ⟨ht, q⟩
    · refine ⟨_, rfl, _, rfl, .inl ⟨_, rfl, ?_⟩⟩
      unfold readF at q1 q2
      obtain ⟨sz1, sz2⟩ := spl_sizes 47 l []
      have ne := spl_ne 47 l []
      refine ⟨_, rfl, ⟨_, rfl⟩, _, _, rfl, rfl, rfl, (by rw [SX.S_len]; exact sl_le (by omega)), fun p hp => ?_⟩
      have s1 := same_new (o := .lst ((Txt.split (SX.S l) (SX.S [47])).map V.str)) hp
      refine ⟨p, _, rfl, SqL.of (by rw [← split_at 47 (by decide) l]; exact upd_same), (fun m hm => by have := sz2 m hm; rw [List.length_nil] at this; omega), (by omega), ?_⟩
      generalize TL.spl [47] 0 [] l = ls at *
      refine fun H' s' => ?_
      have st : Same H H' := s1.trans s'
      refine ⟨fun e0 => ?_, fun p2 ns e0 hp2 hl2 => ?_⟩
      · have e : readFs ls = none := by
          match ls, e0 with
          | [], _ => rfl
          | [a], e0 =>
            rw [wholes_one] at e0
            first | rw [readFs_one] | rw [readFs_two]
            by_cases c : numb a = true
            · rw [if_pos c] at e0
              cases e0
            · rw [if_neg c]
          | [a, b], e0 =>
            rw [wholes_two] at e0
            first | rw [readFs_one] | rw [readFs_two]
            by_cases c : (numb a && numb b) = true
            · rw [if_pos c] at e0
              cases e0
            · rw [if_neg (fun z => c z.1)]
          | _ :: _ :: _ :: _, _ => rfl
        exact ⟨_, rfl, rfl, _, rfl, iteT ⟨_, rfl, .inr ⟨0, rfl, by decide, by decide⟩, fun d hd => q2 e d _ (st.trans (same_new hd)) upd_same⟩⟩
      · have ln : ns.length = ls.length := by
          unfold wholesL at e0
          split at e0
          · cases e0
            rw [List.length_map]
          · cases e0
        refine ⟨_, rfl, rfl, _, rfl, iteF ⟨_, rfl, p2, _, rfl, .inl (SqL.of hl2), _, _, rfl, rfl, _, rfl, ?_⟩⟩
        match ls, ne, e0, ln with
        | a :: b :: c :: r, _, e0, ln =>
          have e : readFs (a :: b :: c :: r) = none := rfl
          refine ite2 (fun _ => ⟨_, rfl, .inr ⟨0, rfl, by decide, by decide⟩, fun d hd => q2 e d _ (st.trans (same_new hd)) upd_same⟩) (fun c => absurd ?_ c)
          rw [decide_eq_true_eq, List.length_map, ln]
          simp only [List.length_cons]
          omega
        | [a], _, e0, ln =>
          rw [wholes_one] at e0
          by_cases c : numb a = true
          · rw [if_pos c] at e0
            cases e0
            refine iteC (d := false) rfl (iteF ⟨_, rfl, p2, _, rfl, .inl (SqL.of hl2), rfl, _, rfl, iteC (d := true) rfl (iteT ?_)⟩)
            refine ⟨_, rfl, p2, _, 0, .int (valL a), rfl, rfl, SqL.of hl2, a0, (by show 2 ≤ sizeLine; decide), fun p5 hp5 => ?_⟩
            have s5 := same_new (o := .tup [.int (valL a), .int 1]) hp5
            refine q1 p5 _ (valL a) 1 ?_ (st.trans s5) (st.free hp5) upd_same
            first | rw [readFs_one] | rw [readFs_two]
            rw [if_pos c]
          · rw [if_neg c] at e0
            cases e0
        | [a, b], _, e0, ln =>
          rw [wholes_two] at e0
          by_cases c : (numb a && numb b) = true
          · rw [if_pos c] at e0
            cases e0
            refine iteC (d := false) rfl (iteF ⟨_, rfl, p2, _, rfl, .inl (SqL.of hl2), rfl, _, rfl, iteC (d := false) rfl (iteF ?_)⟩)
            refine ⟨_, rfl, p2, _, 1, .int (valL b), rfl, rfl, SqL.of hl2, a1, rfl, _, rfl, ?_⟩
            by_cases c1 : valL b = 1
            · have e : readFs [a, b] = none := by
                first | rw [readFs_one] | rw [readFs_two]
                rw [if_neg (fun z => z.2.1 c1)]
              refine iteC (d := true) (by rw [c1]; rfl) (iteT ⟨_, rfl, .inr ⟨0, rfl, by decide, by decide⟩, fun d hd => q2 e d _ (st.trans (same_new hd)) upd_same⟩)
            · refine iteC (d := false) (by rw [decide_eq_false_iff_not]; exact fun z => c1 (V.int.inj z)) (iteF ?_)
              refine ⟨_, rfl, p2, _, 0, .int (valL a), rfl, rfl, SqL.of hl2, a0, _, rfl, p2, _, 1, .int (valL b), rfl, rfl, SqL.of hl2, a1, (by show 2 ≤ sizeLine; decide), fun p5 hp5 => ?_⟩
              have s5 := same_new (o := .tup [.int (valL a), .int (valL b)]) hp5
              refine ⟨p5, _, _, rfl, upd_same, _, rfl, ?_⟩
              have hl3 := s5 _ _ hl2
              by_cases c2 : 1 ≤ valL b ∧ gI (valL a) (valL b) = 1
              · refine iteC (d := false) (by rw [decide_eq_true c2]; rfl) (iteF ?_)
                refine ⟨_, rfl, p2, _, 0, .int (valL a), rfl, rfl, SqL.of hl3, a0, _, rfl, p2, _, 1, .int (valL b), rfl, rfl, SqL.of hl3, a1, (by show 2 ≤ sizeLine; decide), fun p6 hp6 => ?_⟩
                have s6 := same_new (o := .tup [.int (valL a), .int (valL b)]) hp6
                refine q1 p6 _ (valL a) (valL b) ?_ ((st.trans s5).trans s6) ((st.trans s5).free hp6) upd_same
                first | rw [readFs_one] | rw [readFs_two]
                rw [if_pos ⟨c, c1, c2⟩]
              · have e : readFs [a, b] = none := by
                  first | rw [readFs_one] | rw [readFs_two]
                  rw [if_neg (fun z => c2 z.2.2)]
                exact iteC (d := true) (by rw [decide_eq_false c2]; rfl) (iteT ⟨_, rfl, .inr ⟨0, rfl, by decide, by decide⟩, fun d hd => q2 e d _ ((st.trans s5).trans (same_new hd)) upd_same⟩)
          · rw [if_neg c] at e0
            cases e0
    · exact ⟨_, rfl, _, rfl, .inr ⟨ht, q⟩⟩
end
end E1

namespace E1
open PySem PySem.Spec PyProof.Rows L2
theorem find_no {l : List Nat} {c : Nat} (h : c ∉ l) : Txt.find (SX.S l) (SX.S [c]) = -1 := by
  have e := SX.in_one l c
  rw [decide_eq_false h, Bool.not_eq_false'] at e
  unfold Txt.find
  rw [List.isEmpty_iff.mp e]
theorem find_at {p q : List Nat} {c : Nat} (h : c ∉ p) : Txt.find (SX.S (p ++ c :: q)) (SX.S [c]) = (p.length : Int) := by
  have e := SX.in_one (p ++ c :: q) c
  rw [decide_eq_true (by simp), Bool.not_eq_true'] at e
  have pp := SX.partition_some (a := p ++ c :: q) (b := [c]) (List.cons_ne_nil _ _) (SX.par_head (sep := []) q h)
  unfold Txt.find
  unfold Txt.partition at pp
  have sp := PySem.StrLaws.occ_spec (SX.S (p ++ c :: q)) (SX.S [c]) 0 (SX.S (p ++ c :: q)).length 1
  generalize Builtin.Str.occurrences (SX.S (p ++ c :: q)) (SX.S [c]) 0 (SX.S (p ++ c :: q)).length 1 = os at *
  match os, e with
  | i :: r, _ =>
    have b := (sp i (List.mem_cons_self ..)).1
    rw [SX.S_len, SX.S_len] at b
    have f := congrArg (fun z => (TL.tl z.1).length) pp
    simp only [TL.tl_strSub, TL.tl_mk] at f
    rw [List.drop_zero, List.length_take] at f
    show (i : Int) = _
    simp only [List.length_append, List.length_cons, List.length_nil] at b f
    omega
/-- a text and its first sign c -/
theorem first_of (c : Nat) : ∀ l : List Nat, c ∉ l ∨ ∃ p q, l = p ++ c :: q ∧ c ∉ p
  | [] => .inl (fun h => nomatch h)
  | x :: r => by
    by_cases e : x = c
    · exact .inr ⟨[], r, by rw [e]; rfl, fun h => nomatch h⟩
    · rcases first_of c r with h | ⟨p, q, rfl, h⟩
      · refine .inl fun m => ?_
        rcases List.mem_cons.mp m with m | m
        · exact e m.symm
        · exact h m
      · refine .inr ⟨x :: p, q, rfl, fun m => ?_⟩
        rcases List.mem_cons.mp m with m | m
        · exact e m.symm
        · exact h m
theorem readF_no {l : List Nat} (h : 47 ∉ l) : readF l = if numb l = true then some (valL l, 1) else none := by
  unfold readF
  rw [TL.spl_last1 (S := []) h]
  rfl
theorem numb_free {l : List Nat} (h : numb l = true) : 47 ∉ l := by
  have f : figd l := Classical.byContradiction fun z => by rw [not_figd z] at h; cases h
  obtain ⟨_, _, d⟩ := f
  intro m
  unfold bare at d
  by_cases c : l.head? = some 45
  · rw [if_pos c] at d
    match l, c with
    | x :: r, c =>
      cases c
      rcases List.mem_cons.mp m with m | m
      · cases m
      · have := d 47 m
        omega
  · rw [if_neg c] at d
    have := d 47 m
    omega
theorem figs_free {l : List Nat} (h : figs l = true) : 47 ∉ l := fun m => by
  have := (figs_iff.mp h).2.2.2 47 m
  omega
theorem spl_many {l : List Nat} (h : 47 ∈ l) : ∃ a b r, TL.spl [47] 0 [] l = a :: b :: r := by
  rcases first_of 47 l with z | ⟨p, q, rfl, hp⟩
  · exact absurd h z
  · have e := TL.spl_part1 (s := 47) (S := []) (p := p) (rest := q) (acc := []) hp
    have ne := spl_ne 47 q []
    match hh : TL.spl [47] 0 [] q, ne with
    | b :: r, _ =>
      rw [hh] at e
      exact ⟨_, b, r, e⟩
theorem figs_val {q : List Nat} (h : figs q = true) : numb q = true ∧ valL q = (NumText.digitsVal q : Nat) ∧ (q = [48] ↔ valL q = 0) ∧ (q = [49] ↔ valL q = 1) := by
  obtain ⟨h1, h2, h3, h4⟩ := figs_iff.mp h
  have nh : ¬ q.head? = some 45 := fun z => by
    have := h4 _ (List.mem_of_mem_head? z)
    omega
  have v : valL q = (NumText.digitsVal q : Nat) := by
    unfold valL
    rw [if_neg nh]
  have bk := numL_back h4 h1 h3
  refine ⟨by unfold numb; rw [h]; rfl, v, ⟨fun e => by rw [e]; rfl, fun e => ?_⟩, ⟨fun e => by rw [e]; rfl, fun e => ?_⟩⟩
  · rw [v] at e
    have : NumText.digitsVal q = 0 := by omega
    rw [this] at bk
    exact bk.symm
  · rw [v] at e
    have : NumText.digitsVal q = 1 := by omega
    rw [this] at bk
    exact bk.symm
/-- a number above 0 is written with figures alone -/
theorem numb_pos {q : List Nat} (h : numb q = true) (h1 : 1 ≤ valL q) : figs q = true := by
  unfold numb at h
  rw [Bool.or_eq_true, Bool.and_eq_true, Bool.and_eq_true, beq_iff_eq] at h
  rcases h with h | ⟨⟨e, _⟩, _⟩
  · exact h
  · exfalso
    unfold valL at h1
    rw [if_pos] at h1
    · omega
    · match q, e with
      | x :: r, e =>
        cases e
        rfl
theorem readF_at {p q : List Nat} (h : 47 ∉ p) : readF (p ++ 47 :: q) = if numb p = true ∧ figs q = true ∧ ¬ q = [48] ∧ ¬ q = [49] ∧ gI (valL p) (valL q) = 1 then some (valL p, valL q) else none := by
  have e := TL.spl_part1 (s := 47) (S := []) (p := p) (rest := q) (acc := []) h
  have e' : TL.spl [47] 0 [] (p ++ 47 :: q) = p :: TL.spl [47] 0 [] q := e
  unfold readF
  rw [e']
  by_cases hq : 47 ∈ q
  · obtain ⟨a, b, r, hr⟩ := spl_many hq
    rw [hr, if_neg (fun z => figs_free z.2.1 hq)]
    rfl
  · rw [TL.spl_last1 (S := []) hq]
    show readFs [p, q] = _
    rw [readFs_two]
    by_cases c : numb p = true ∧ figs q = true ∧ ¬ q = [48] ∧ ¬ q = [49] ∧ gI (valL p) (valL q) = 1
    · obtain ⟨c1, c2, c3, c4, c5⟩ := c
      obtain ⟨v1, v2, v3, v4⟩ := figs_val c2
      have n0 : valL q ≠ 0 := fun z => c3 (v3.mpr z)
      rw [if_pos ⟨by rw [c1, v1]; rfl, fun z => c4 (v4.mpr z), by omega, c5⟩, if_pos ⟨c1, c2, c3, c4, c5⟩]
    · rw [if_neg (show ¬ ((numb p && numb q) = true ∧ ¬ valL q = 1 ∧ 1 ≤ valL q ∧ gI (valL p) (valL q) = 1) from ?_), if_neg c]
      rintro ⟨d1, d2, d3, d4⟩
      rw [Bool.and_eq_true] at d1
      have f := numb_pos d1.2 d3
      obtain ⟨v1, v2, v3, v4⟩ := figs_val f
      exact c ⟨d1.1, f, fun z => by have := v3.mp z; omega, fun z => d2 (v4.mp z), d4⟩

end E1

namespace E1
open PySem PySem.Spec PyProof.Rows L2

theorem kit2 {K : PySem.W.Frag} {t a b : String} {r1 r2 : Bool} (h1 : kitB t a = some r1) (h2 : kitB t b = some r2) : PySem.W.kitAny K (.type t) [.type a, .type b] = some (r1 || r2) := by
  refine kitAny_cons (kit_ty h1) (fun e => ?_) (fun e => ?_)
  · subst e
    refine kitAny_cons (kit_ty h2) (fun e => ?_) (fun e => ?_)
    · subst e
      rfl
    · subst e
      rfl
  · subst e
    rfl
/-- a thing that is no list and no tuple -/
inductive Flat : V → Prop where
  | int (i : Int) : Flat (.int i)
  | bl (b : Bool) : Flat (.bl b)
  | str (s : Str) : Flat (.str s)
  | non : Flat .non
/-- alike at a depth below n -/
def Al (H : Hp) : Nat → V → V → Prop
  | 0, _, _ => False
  | n + 1, x, y => (x = y ∧ Flat x) ∨ ∃ a c xs ys, x = .ref a ∧ y = .ref c ∧ xs.length = ys.length ∧ xs.length ≤ 95000 ∧ (∀ (i : Nat) u v, xs[i]? = some u → ys[i]? = some v → Al H n u v) ∧
      ((H a = some (.tup xs) ∧ H c = some (.tup ys)) ∨ (H a = some (.lst xs) ∧ H c = some (.lst ys)))
theorem Al.same {H H' : Hp} (s : Same H H') : ∀ (n : Nat) (x y : V), Al H n x y → Al H' n x y
  | 0, _, _, h => h
  | n + 1, x, y, h => by
    rcases h with h | ⟨a, c, xs, ys, e1, e2, l1, l2, al, hk⟩
    · exact .inl h
    · refine .inr ⟨a, c, xs, ys, e1, e2, l1, l2, fun i u v h1 h2 => Al.same s n u v (al i u v h1 h2), ?_⟩
      rcases hk with ⟨h1, h2⟩ | ⟨h1, h2⟩
      · exact .inl ⟨s _ _ h1, s _ _ h2⟩
      · exact .inr ⟨s _ _ h1, s _ _ h2⟩
theorem Al.more {H : Hp} : ∀ (n : Nat) (x y : V), Al H n x y → Al H (n + 1) x y
  | 0, _, _, h => False.elim h
  | n + 1, x, y, h => by
    rcases h with h | ⟨a, c, xs, ys, e1, e2, l1, l2, al, hk⟩
    · exact .inl h
    · exact .inr ⟨a, c, xs, ys, e1, e2, l1, l2, fun i u v h1 h2 => Al.more n u v (al i u v h1 h2), hk⟩
theorem Al.int {H : Hp} {n : Nat} (i : Int) : Al H (n + 1) (.int i) (.int i) := .inl ⟨rfl, .int i⟩
theorem Al.ints {H : Hp} {n : Nat} {a c : Addr} {ns : List Int} (hl : ns.length ≤ 95000) (h1 : H a = some (.lst (ns.map V.int))) (h2 : H c = some (.lst (ns.map V.int))) : Al H (n + 2) (.ref a) (.ref c) := by
  refine .inr ⟨a, c, _, _, rfl, rfl, rfl, by rw [List.length_map]; exact hl, fun i u v e1 e2 => ?_, .inr ⟨h1, h2⟩⟩
  have e := Option.some.inj (e1.symm.trans e2)
  subst e
  rw [List.getElem?_map] at e1
  obtain ⟨m, _, rfl⟩ := Option.map_eq_some_iff.mp e1
  exact Al.int m
def spSameN (n : Nat) : Sp := fun vs H Q _ => ∃ x y, vs = [x, y] ∧ Al H n x y ∧ ∀ H', Same H H' → Q (.bl true) H'
/-- two tuples beside each other: as many turns as the shorter one has places -/
theorem walk_zipT {K : PySem.W.Frag} {a b : Addr} {xs ys : List V} {n : Nat} (hn : n = min xs.length ys.length) : Walk (RZ.ItzT K a b) n (fun H => SqT K H a xs ∧ SqT K H b ys) (YPair (fun i => xs[i]?) (fun i => ys[i]?)) := by
  have less : ∀ i, i < n → i < xs.length ∧ i < ys.length := fun i hi => ⟨by omega, by omega⟩
  constructor
  · intro i G hi both
    obtain ⟨hx, hy⟩ := less i hi
    exact ⟨xs, ys, xs[i]'hx, ys[i]'hy, both.1, both.2, List.getElem?_eq_getElem hx, List.getElem?_eq_getElem hy⟩
  · intro G both
    exact ⟨xs, ys, both.1, both.2, by omega⟩
  · intro i G v G' hi both told
    obtain ⟨T, l, r, e1, e2, e3, gl, gr⟩ := told
    exact ⟨T, l, r, e1, e2, e3, gl _ both.1, gr _ both.2⟩
theorem rep_map (n : Nat) : (List.replicate n true).map V.bl = List.replicate n (V.bl true) := by rw [List.map_replicate]
theorem rep_all (n : Nat) : (List.replicate n true).all id = true := by
  rw [List.all_eq_true]
  intro x h
  exact (List.mem_replicate.mp h).2
theorem rep_more (n : Nat) : List.replicate n (V.bl true) ++ [V.bl true] = List.replicate (n + 1) (V.bl true) := by rw [List.replicate_succ']
theorem low_gcd {t b : Int} (hb : b ≠ 0) : gI (lowT t b) (lowB t b) = 1 := by
  have h1 : ∀ {x y : Int}, y ≠ 0 → gI (x / gI x y) (y / gI x y) = 1 := fun {x y} h => by
    have := Int.gcd_ediv_gcd_ediv_gcd (i := x) (j := y) (Int.gcd_pos_of_ne_zero_right x h)
    unfold gI
    rw [this]
    rfl
  unfold lowT lowB
  split
  · rw [← gI_neg t b]
    exact h1 (by omega)
  · exact h1 hb

theorem small1000 {n : Nat} (h : n ≤ 1001) : n < sizeLine := Nat.lt_of_le_of_lt h (by decide)
theorem iteNS {x : V} {A B : Prop} {s : Bool} (h : s = true) (b : B) : if (!decide (x = x)) = true then A else B := by
  rw [decide_eq_true rfl]
  exact b
def spLowP : Sp := fun vs H Q _ => ∃ t b : Int, vs = [.int t, .int b] ∧ 0 < b ∧ b.natAbs < 2 ^ 4000 ∧ ∀ p, H p = none → Q (.ref p) (upd H p (.tup [.int (lowT t b), .int (lowB t b)]))
theorem lowTP {t b : Int} (hb : 0 < b) : t / gI t b = lowT t b ∧ b / gI t b = lowB t b := by
  unfold lowT lowB
  rw [if_neg (by omega), if_neg (by omega)]
  exact ⟨rfl, rfl⟩
theorem low_mul {t b : Int} (hb : 0 < b) : lowT t b * gI t b = t ∧ lowB t b * gI t b = b := by
  rw [← (lowTP hb).1, ← (lowTP hb).2]
  exact ⟨Int.ediv_mul_cancel (Int.gcd_dvd_left ..), Int.ediv_mul_cancel (Int.gcd_dvd_right ..)⟩
def spFig : Sp := fun vs H Q _ => ∃ l : List Nat, vs = [sV l] ∧ l.length ≤ 100000 ∧ ∀ H', Same H H' → Q (.bl (figs l)) H'
def spNum : Sp := fun vs H Q _ => ∃ l : List Nat, vs = [sV l] ∧ l.length ≤ 100000 ∧ ∀ H', Same H H' → Q (.bl (numb l)) H'
theorem in_false {l : List Nat} {p : Nat → Bool} : inV (.bl false) (l.map fun c => V.bl (p c)) = !(l.all p) := by
  unfold inV
  rw [List.any_map, List.not_all_eq_any_not]
  congr 1
  funext c
  show (p c == false) = !p c
  cases p c <;> rfl
theorem in_false2 {l : List (List Nat)} {p : List Nat → Bool} : inV (.bl false) (l.map fun c => V.bl (p c)) = !(l.all p) := by
  unfold inV
  rw [List.any_map, List.not_all_eq_any_not]
  congr 1
  funext c
  show (p c == false) = !p c
  cases p c <;> rfl
theorem str_S (s : String) (l : List Nat) (h : (Str.ofString s).cps.toList = l) : Str.ofString s = SX.S l := TL.ext_tl h
theorem nil_S : Str.ofString "" = SX.S [] := rfl
theorem nought_S : Str.ofString "0" = SX.S [48] := rfl
theorem one_S : Str.ofString "1" = SX.S [49] := rfl
theorem minus_S : Str.ofString "-" = SX.S [45] := rfl
theorem mnought_S : Str.ofString "-0" = SX.S [45, 48] := rfl
def spDue : Sp := fun vs H Q _ => ∃ x : V, vs = [x] ∧ ((x = .non ∧ Q (.str "refused") H) ∨ (x ≠ .non ∧ ∀ p, H p = none → Q (.ref p) (upd H p (.tup [.str "told", x]))))
/-- a great number: at most four hundred figures -/
def spGreat : Sp := fun vs H Q _ => ∃ (a : Addr) (c : Int), vs = [.ref a] ∧ WellAt H a c ∧ 0 ≤ c ∧ c ≤ 100000000 ∧ ∀ (r : Int) (H' : Hp), 0 ≤ r → r < 10 ^ 400 → SameBut a H H' → WellAt H' a (c + 51) → Q (.int r) H'
def spSpoil : Sp := fun vs H Q _ => ∃ (l : List Nat) (a : Addr) (c : Int), vs = [sV l, .ref a] ∧ l.length ≤ 80000 ∧ WellAt H a c ∧ 0 ≤ c ∧ c ≤ 100000000 ∧ ∀ (m : List Nat) (H' : Hp), m.length ≤ l.length + 1 → SameBut a H H' → WellAt H' a (c + 3) → Q (sV m) H'
def spRF : Sp := fun vs H Q _ => ∃ l : List Nat, vs = [sV l] ∧ l.length ≤ 90000 ∧ (readF l = none → ∀ H', Same H H' → Q .non H') ∧ (∀ t u, readF l = some (t, u) → ∀ p H', Same H H' → H' p = some (.tup [.int t, .int u]) → Q (.ref p) H')
def spRW : Sp := fun vs H Q _ => ∃ l : List Nat, vs = [sV l] ∧ l.length ≤ 90000 ∧ (readW l = none → ∀ H', Same H H' → Q .non H') ∧ (∀ ns, readW l = some ns → ∀ p H', Same H H' → H' p = some (.lst (ns.map V.int)) → Q (.ref p) H')
section
variable {P : Program} {w : World} {K : PySem.W.Frag} {mg : Str → Option Value} {base : Heap}
theorem sc__law_same : FnScope ["_law_found", "_law_due_here", "_law_one", "_law_other"] ["_law_found", "_law_due_here"] (defScope s__law_same) := ⟨rfl, rfl, rfl, by decide +kernel, rfl, by decide +kernel, by decide +kernel⟩
theorem ok_same {f : Addr} {fd : FuncData} {k n : Nat} (F : Fun K "_law_same" "_law_same" s__law_same f fd) (z : Zs mg) (c__law_same : Cal P w K mg base k "_law_same" ["_law_found", "_law_due_here"] (spSameN n)) : FnOk P w K mg base CX0 (k + 1) f fd ["_law_found", "_law_due_here"] (spSameN (n + 1)) := by
  refine F.ok sc__law_same (fun vs H Q E h => ?_) (fun cdv A outer s H vs Q E hr h => ?_)
  · obtain ⟨x, y, rfl, _⟩ := h
    rfl
  · obtain ⟨x, y, rfl, hh, q⟩ := h
    refine ⟨_, (pss_cons (ps_if (pt_val (pe_callB call_isiT (by rfl) z.isinstance (by decide +kernel) (pa_cons (pv 1) (pa_cons (pe_tup (pa_cons (pe_bltn (v := .ty "list") (by rfl) z.list (by decide +kernel) rfl) (pa_cons (pe_bltn (v := .ty "tuple") (by rfl) z.tuple (by decide +kernel) rfl) pa_nil))) pa_nil)))) (pss_cons (ps_if (PW.pt (pw_or (pt_cmpR op_ne (pe_callB call_isi (by rfl) z.isinstance (by decide +kernel) (pa_cons (pv 1) (pa_cons (pe_bltn (v := .ty "list") (by rfl) z.list (by decide +kernel) rfl) pa_nil))) (pe_callB call_isi (by rfl) z.isinstance (by decide +kernel) (pa_cons (pv 0) (pa_cons (pe_bltn (v := .ty "list") (by rfl) z.list (by decide +kernel) rfl) pa_nil))) (nomark _)) (pw_or1 (pt_cmpR op_ne (pe_callB call_isi (by rfl) z.isinstance (by decide +kernel) (pa_cons (pv 1) (pa_cons (pe_bltn (v := .ty "tuple") (by rfl) z.tuple (by decide +kernel) rfl) pa_nil))) (pe_callB call_isi (by rfl) z.isinstance (by decide +kernel) (pa_cons (pv 0) (pa_cons (pe_bltn (v := .ty "tuple") (by rfl) z.tuple (by decide +kernel) rfl) pa_nil))) (nomark _))))) (pss_one (ps_ret pe_bl)) pss_nil)
      (pss_one (ps_ret (pe_and (pe_cmpR op_eq (pe_callB call_len_seq (by rfl) z.len PySem.boot_len (pa_cons (pv 0) pa_nil)) (pe_callB call_len_seq (by rfl) z.len PySem.boot_len (pa_cons (pv 1) pa_nil)) (nomark _)) (pe_one (pe_callB (cr_all rfl) (by rfl) z.all (by decide +kernel) (pa_cons (pe_lc (own := [("_law_one", 2), ("_law_other", 3)]) (g := gTup K 2 (gCons (gName 2) (gCons (gName 3) gNil))) (tt := tYes) (te := (tCall (spSameN n) [] E0 (tCons (tVar 2) (tCons (tVar 3) tNil)))) (by rfl) sc__law_same.nd (RZ.pi_zipA (by rfl) z.zip (pa_cons (pv 0) (pa_cons (pv 1) pa_nil))) (blkOk_by (own := [("_law_one", 2), ("_law_other", 3)]) (N := ["_law_found", "_law_due_here", "_law_one", "_law_other"]) (sc := defScope s__law_same) (by decide +kernel)) (fun _ _ _ _ _ => by exact (pg_tup (by rfl) (pgs_cons (pg_name (i := 2) sc__law_same.nd rfl (.inl rfl)) (pgs_cons (pg_name (i := 3) sc__law_same.nd rfl (.inl rfl)) pgs_nil)))) (fun _ _ _ _ _ => by exact pts_nil) (fun _ _ _ _ _ => by exact (pe_cal (hle := Nat.le_refl _) c__law_same hr (pa_cons (pv 2) (pa_cons (pv 3) pa_nil))))) pa_nil))))))) pss_nil)
      (pss_cons (ps_if (pt_cmpR op_isN (pv 1) pe_non (nomark _)) (pss_one (ps_ret (pe_cmpR op_isN (pv 0) pe_non (nomark _)))) pss_nil)
      (pss_cons (ps_if (pt_val (pe_callB call_isiT (by rfl) z.isinstance (by decide +kernel) (pa_cons (pv 1) (pa_cons (pe_tup (pa_cons (pe_bltn (v := .ty "bool") (by rfl) z.bool (by decide +kernel) rfl) (pa_cons (pe_bltn (v := .ty "str") (by rfl) z.str (by decide +kernel) rfl) pa_nil))) pa_nil)))) (pss_one (ps_ret (pe_and (pe_cmpR op_eq (pe_callB call_isi (by rfl) z.isinstance (by decide +kernel) (pa_cons (pv 0) (pa_cons (pe_bltn (v := .ty "bool") (by rfl) z.bool (by decide +kernel) rfl) pa_nil))) (pe_callB call_isi (by rfl) z.isinstance (by decide +kernel) (pa_cons (pv 1) (pa_cons (pe_bltn (v := .ty "bool") (by rfl) z.bool (by decide +kernel) rfl) pa_nil))) (nomark _)) (pe_one (pe_cmpR op_eq (pv 0) (pv 1) (nomark _)))))) pss_nil)
      (pss_one (ps_ret (pe_and (pe_callB call_isi (by rfl) z.isinstance (by decide +kernel) (pa_cons (pv 0) (pa_cons (pe_bltn (v := .ty "int") (by rfl) z.int (by decide +kernel) rfl) pa_nil))) (pe_and (pe_not (pe_callB call_isi (by rfl) z.isinstance (by decide +kernel) (pa_cons (pv 0) (pa_cons (pe_bltn (v := .ty "bool") (by rfl) z.bool (by decide +kernel) rfl) pa_nil)))) (pe_one (pe_cmpR op_eq (pv 0) (pv 1) (nomark _)))))))))), ?_⟩
    rcases hh with ⟨rfl, hf⟩ | ⟨a, c, xs, ys, rfl, rfl, hlen, hmax, hal, hk⟩
    · cases hf with
      | int i =>
        refine ⟨_, rfl, (by show 2 ≤ sizeLine; decide), fun p hp => ⟨_, p, _, _, _, false, rfl, upd_same, .cons (.ty _) (.cons (.ty _) .nil), .base (.int i), kit2 (t := "int") (a := "list") (b := "tuple") (r1 := false) (r2 := false) (by decide +kernel) (by decide +kernel), _, rfl, iteF ?_⟩⟩
        refine ⟨_, rfl, rfl, _, rfl, ite2 (fun c => absurd (toB c) (fun e => nomatch e)) (fun _ => ?_)⟩
        refine ⟨_, rfl, (by show 2 ≤ sizeLine; decide), fun p2 hp2 => ⟨_, p2, _, _, _, false, rfl, upd_same, .cons (.ty _) (.cons (.ty _) .nil), .base (.int i), kit2 (t := "int") (a := "bool") (b := "str") (r1 := false) (r2 := false) (by decide +kernel) (by decide +kernel), _, rfl, iteF ?_⟩⟩
        refine ⟨_, rfl, _, .ty "int", _, _, true, rfl, .ty _, .base (.int i), kit_ty (by decide +kernel), _, rfl, iteT ⟨_, rfl, _, .ty "bool", _, _, false, rfl, .ty _, .base (.int i), kit_ty (by decide +kernel), _, rfl, _, rfl, iteT ⟨_, rfl, _, rfl, rfl, ?_⟩⟩⟩
        rw [decide_eq_true rfl]
        exact q _ ((same_new hp).trans (same_new hp2))
      | bl b =>
        refine ⟨_, rfl, (by show 2 ≤ sizeLine; decide), fun p hp => ⟨_, p, _, _, _, false, rfl, upd_same, .cons (.ty _) (.cons (.ty _) .nil), .base (.bl b), kit2 (t := "bool") (a := "list") (b := "tuple") (r1 := false) (r2 := false) (by decide +kernel) (by decide +kernel), _, rfl, iteF ?_⟩⟩
        refine ⟨_, rfl, rfl, _, rfl, ite2 (fun c => absurd (toB c) (fun e => nomatch e)) (fun _ => ?_)⟩
        refine ⟨_, rfl, (by show 2 ≤ sizeLine; decide), fun p2 hp2 => ⟨_, p2, _, _, _, true, rfl, upd_same, .cons (.ty _) (.cons (.ty _) .nil), .base (.bl b), kit2 (t := "bool") (a := "bool") (b := "str") (r1 := true) (r2 := false) (by decide +kernel) (by decide +kernel), _, rfl, iteT ?_⟩⟩
        refine ⟨_, rfl, _, .ty "bool", _, _, true, rfl, .ty _, .base (.bl b), kit_ty (by decide +kernel), _, rfl, _, .ty "bool", _, _, true, rfl, .ty _, .base (.bl b), kit_ty (by decide +kernel), rfl, _, rfl, ?_⟩
        rw [decide_eq_true rfl]
        refine iteT ⟨_, rfl, _, rfl, rfl, ?_⟩
        rw [decide_eq_true rfl]
        exact q _ ((same_new hp).trans (same_new hp2))
      | str t =>
        refine ⟨_, rfl, (by show 2 ≤ sizeLine; decide), fun p hp => ⟨_, p, _, _, _, false, rfl, upd_same, .cons (.ty _) (.cons (.ty _) .nil), .base (.str t), kit2 (t := "str") (a := "list") (b := "tuple") (r1 := false) (r2 := false) (by decide +kernel) (by decide +kernel), _, rfl, iteF ?_⟩⟩
        refine ⟨_, rfl, rfl, _, rfl, ite2 (fun c => absurd (toB c) (fun e => nomatch e)) (fun _ => ?_)⟩
        refine ⟨_, rfl, (by show 2 ≤ sizeLine; decide), fun p2 hp2 => ⟨_, p2, _, _, _, true, rfl, upd_same, .cons (.ty _) (.cons (.ty _) .nil), .base (.str t), kit2 (t := "str") (a := "bool") (b := "str") (r1 := false) (r2 := true) (by decide +kernel) (by decide +kernel), _, rfl, iteT ?_⟩⟩
        refine ⟨_, rfl, _, .ty "bool", _, _, false, rfl, .ty _, .base (.str t), kit_ty (by decide +kernel), _, rfl, _, .ty "bool", _, _, false, rfl, .ty _, .base (.str t), kit_ty (by decide +kernel), rfl, _, rfl, ?_⟩
        rw [decide_eq_true rfl]
        refine iteT ⟨_, rfl, _, rfl, rfl, ?_⟩
        rw [decide_eq_true rfl]
        exact q _ ((same_new hp).trans (same_new hp2))
      | non =>
        refine ⟨_, rfl, (by show 2 ≤ sizeLine; decide), fun p hp => ⟨_, p, _, _, _, false, rfl, upd_same, .cons (.ty _) (.cons (.ty _) .nil), .base .non, kit2 (t := "NoneType") (a := "list") (b := "tuple") (r1 := false) (r2 := false) (by decide +kernel) (by decide +kernel), _, rfl, iteF ?_⟩⟩
        refine ⟨_, rfl, rfl, _, rfl, ?_⟩
        rw [decide_eq_true rfl]
        refine iteT ⟨_, rfl, rfl, ?_⟩
        rw [decide_eq_true rfl]
        exact q _ (same_new hp)
    · rcases hk with ⟨h1, h2⟩ | ⟨h1, h2⟩
      · refine ⟨_, rfl, (by show 2 ≤ sizeLine; decide), fun p hp => ⟨_, p, _, _, _, true, rfl, upd_same, .cons (.ty _) (.cons (.ty _) .nil), .base (.tup (same_new hp _ _ h2)), kit2 (t := "tuple") (a := "list") (b := "tuple") (r1 := false) (r2 := true) (by decide +kernel) (by decide +kernel), _, rfl, iteT ?_⟩⟩
        have s1 : Same H (upd H p (.tup [V.ty "list", V.ty "tuple"])) := same_new hp
        have k1 := s1 _ _ h1
        have k2 := s1 _ _ h2
        refine ⟨_, rfl, _, .ty "list", _, _, false, rfl, .ty _, .base (.tup k2), kit_ty (by decide +kernel), _, rfl, _, .ty "list", _, _, false, rfl, .ty _, .base (.tup k1), kit_ty (by decide +kernel), rfl, _, rfl, iteNS rfl ?_⟩
        refine ⟨_, rfl, _, .ty "tuple", _, _, true, rfl, .ty _, .base (.tup k2), kit_ty (by decide +kernel), _, rfl, _, .ty "tuple", _, _, true, rfl, .ty _, .base (.tup k1), kit_ty (by decide +kernel), rfl, _, rfl, iteNS rfl ?_⟩
        refine ⟨_, rfl, a, xs, rfl, .inr (SqT.of k1), _, rfl, c, ys, rfl, .inr (SqT.of k2), rfl, _, rfl, ?_⟩
        rw [decide_eq_true (by rw [hlen])]
        refine iteT ⟨_, rfl, _, rfl, a, c, xs, ys, rfl, .inr ⟨SqT.of k1, SqT.of k2, fun D hD => ?_⟩⟩
        refine lc_it (walk_zipT (K := K) (a := a) (b := c) (xs := xs) (ys := ys) rfl) (fun i H2 => Same (upd H p (.tup [V.ty "list", V.ty "tuple"])) H2 ∧ H2 D = some (.lst (List.replicate i (V.bl true))))
          ⟨same_new hD, upd_same⟩ (fun i H2 _ hP => ⟨SqT.of (hP.1 _ _ k1), SqT.of (hP.1 _ _ k2)⟩) (fun i x H2 H3 hi hP hY => ?_) (fun H2 hP => ?_)
        · obtain ⟨s2, hD2⟩ := hP
          obtain ⟨Tp, u, v, rfl, nT, rfl, e1, e2⟩ := hY
          have fu := hal i u v e1 e2
          refine ⟨Tp, [u, v], rfl, SqT.of upd_same, rfl, _, _, rfl, _, _, rfl, rfl, rfl, ?_⟩
          refine ⟨_, rfl, _, rfl, u, v, rfl, Al.same ((s1.trans s2).trans (same_new nT)) n u v fu, fun H4 s4 => ?_⟩
          have s5 : Same H2 H4 := (same_new nT).trans s4
          have hil : i < 95001 := by
            rw [hlen, Nat.min_self] at hi
            omega
          refine ⟨_, s5 _ _ hD2, ?_, fun b o e => ?_, ?_⟩
          · rw [List.length_replicate]
            exact sl_lt (by omega)
          · rw [upd_ne (ne_of_none e hD)]
            exact s5 _ _ (s2 _ _ e)
          · rw [upd_same, rep_more]
        · obtain ⟨s2, hD2⟩ := hP
          refine ⟨D, List.replicate _ true, rfl, SqL.of (by rw [rep_map]; exact hD2), ?_⟩
          rw [rep_all]
          exact q _ (s1.trans s2)
      · refine ⟨_, rfl, (by show 2 ≤ sizeLine; decide), fun p hp => ⟨_, p, _, _, _, true, rfl, upd_same, .cons (.ty _) (.cons (.ty _) .nil), .base (.lst (same_new hp _ _ h2)), kit2 (t := "list") (a := "list") (b := "tuple") (r1 := true) (r2 := false) (by decide +kernel) (by decide +kernel), _, rfl, iteT ?_⟩⟩
        have s1 : Same H (upd H p (.tup [V.ty "list", V.ty "tuple"])) := same_new hp
        have k1 := s1 _ _ h1
        have k2 := s1 _ _ h2
        refine ⟨_, rfl, _, .ty "list", _, _, true, rfl, .ty _, .base (.lst k2), kit_ty (by decide +kernel), _, rfl, _, .ty "list", _, _, true, rfl, .ty _, .base (.lst k1), kit_ty (by decide +kernel), rfl, _, rfl, iteNS rfl ?_⟩
        refine ⟨_, rfl, _, .ty "tuple", _, _, false, rfl, .ty _, .base (.lst k2), kit_ty (by decide +kernel), _, rfl, _, .ty "tuple", _, _, false, rfl, .ty _, .base (.lst k1), kit_ty (by decide +kernel), rfl, _, rfl, iteNS rfl ?_⟩
        refine ⟨_, rfl, a, xs, rfl, .inl (SqL.of k1), _, rfl, c, ys, rfl, .inl (SqL.of k2), rfl, _, rfl, ?_⟩
        rw [decide_eq_true (by rw [hlen])]
        refine iteT ⟨_, rfl, _, rfl, a, c, xs, ys, rfl, .inl ⟨SqL.of k1, SqL.of k2, fun D hD => ?_⟩⟩
        refine lc_it (walk_zip (K := K) (a := a) (b := c) (xs := xs) (ys := ys) rfl) (fun i H2 => Same (upd H p (.tup [V.ty "list", V.ty "tuple"])) H2 ∧ H2 D = some (.lst (List.replicate i (V.bl true))))
          ⟨same_new hD, upd_same⟩ (fun i H2 _ hP => ⟨SqL.of (hP.1 _ _ k1), SqL.of (hP.1 _ _ k2)⟩) (fun i x H2 H3 hi hP hY => ?_) (fun H2 hP => ?_)
        · obtain ⟨s2, hD2⟩ := hP
          obtain ⟨Tp, u, v, rfl, nT, rfl, e1, e2⟩ := hY
          have fu := hal i u v e1 e2
          refine ⟨Tp, [u, v], rfl, SqT.of upd_same, rfl, _, _, rfl, _, _, rfl, rfl, rfl, ?_⟩
          refine ⟨_, rfl, _, rfl, u, v, rfl, Al.same ((s1.trans s2).trans (same_new nT)) n u v fu, fun H4 s4 => ?_⟩
          have s5 : Same H2 H4 := (same_new nT).trans s4
          have hil : i < 95001 := by
            rw [hlen, Nat.min_self] at hi
            omega
          refine ⟨_, s5 _ _ hD2, ?_, fun b o e => ?_, ?_⟩
          · rw [List.length_replicate]
            exact sl_lt (by omega)
          · rw [upd_ne (ne_of_none e hD)]
            exact s5 _ _ (s2 _ _ e)
          · rw [upd_same, rep_more]
        · obtain ⟨s2, hD2⟩ := hP
          refine ⟨D, List.replicate _ true, rfl, SqL.of (by rw [rep_map]; exact hD2), ?_⟩
          rw [rep_all]
          exact q _ (s1.trans s2)

theorem ok_sameN {f : Addr} {fd : FuncData} {k : Nat} (F : Fun K "_law_same" "_law_same" s__law_same f fd) : FnOk P w K mg base CX0 (k + 1) f fd ["_law_found", "_law_due_here"] (spSameN 0) := by
  refine F.ok sc__law_same (fun vs H Q E h => ?_) (fun cdv A outer s H vs Q E hr h => ?_)
  · obtain ⟨_, _, _, h, _⟩ := h
    exact False.elim h
  · obtain ⟨_, _, _, h, _⟩ := h
    exact False.elim h
theorem sc__law_low : FnScope ["_law_top", "_law_bottom", "_law_one", "_law_other"] ["_law_top", "_law_bottom"] (defScope s__law_low) := ⟨rfl, rfl, rfl, by decide +kernel, rfl, by decide +kernel, by decide +kernel⟩
theorem ok__law_low {f : Addr} {fd : FuncData} {k : Nat} (F : Fun K "_law_low" "_law_low" s__law_low f fd) (z : Zs mg) : FnOk P w K mg base CX0 (k + 1) f fd ["_law_top", "_law_bottom"] spLowP := by
  refine F.ok sc__law_low (fun vs H Q E h => ?_) (fun cdv A outer s H vs Q E hr h => ?_)
  · obtain ⟨t, b, rfl, _⟩ := h
    rfl
  · obtain ⟨t, b, rfl, hb, hl, q⟩ := h
    refine ⟨_, (pss_cons (ps_set (i := 2) sc__law_low.nd rfl (.inl rfl) (pe_callB call_abs (by rfl) z.abs (by decide +kernel) (pa_cons (pv 0) pa_nil)))
      (pss_cons (ps_set (i := 3) sc__law_low.nd rfl (.inl rfl) (pv 1))
      (pss_cons (ps_while PassesOwn.never (pt_cmpR op_gt (pv 3) pe_int (nomark _)) (pss_one (ps_par (i := 2) (j := 3) (by rfl) sc__law_low.nd rfl rfl (by decide) rfl rfl (pa_cons (pv 3) (pa_cons (pe_op op_mod (pv 2) (pv 3)) pa_nil)) (by rfl))))
      (pss_one (ps_ret (pe_tup (pa_cons (pe_op op_fdivW (pv 0) (pv 2)) (pa_cons (pe_op op_fdivW (pv 1) (pv 2)) pa_nil)))))))), ?_⟩
    have g0 := gI_pos (t := t) (b := b) (by omega)
    have g1 : (gI t b).natAbs < 2 ^ 4000 := Nat.lt_of_le_of_lt (gI_le (by omega)) hl
    refine ⟨_, rfl, _, rfl, ?_⟩
    refine ⟨_, rfl, ?_⟩
    dsimp only [gName, tSeq]
    refine while_by (fun σ H' => H' = H ∧ ∃ m n : Nat, σ = [some (.int t), some (.int b), some (.int (m : Int)), some (.int (n : Int))] ∧ Nat.gcd m n = Int.gcd t b)
      (fun σ _ => match σ with | [_, _, _, some (.int r)] => r.toNat | _ => 0) ⟨rfl, t.natAbs, b.natAbs, ?_, rfl⟩ (fun σ H1 hP => ?_) (fun σ H Q Q' m hh => ?_)
    · have e1 : (if t < 0 then -t else t) = (t.natAbs : Int) := by split <;> omega
      have e2 : b = (b.natAbs : Int) := by omega
      show [some (V.int t), some (V.int b), some (V.int (if t < 0 then -t else t)), some (V.int b)] = _
      rw [e1, ← e2]
    · obtain ⟨rfl, m, n, rfl, hg⟩ := hP
      refine ⟨_, rfl, _, _, rfl, rfl, _, rfl, ite2 (fun c => ?_) (fun c => ?_)⟩
      · have hn := toB c
        refine ⟨_, rfl, _, rfl, _, rfl, _, _, rfl, rfl, (by omega), _, _, rfl, ⟨⟨rfl, n, m % n, rfl, ?_⟩, ?_⟩⟩
        · rw [← hg, Nat.gcd_comm n (m % n), ← Nat.gcd_rec n m, Nat.gcd_comm]
        · show ((m : Int) % (n : Int)).toNat < ((n : Int)).toNat
          have := Int.emod_lt_of_pos (m : Int) (show (0 : Int) < n by omega)
          have := Int.emod_nonneg (m : Int) (show (n : Int) ≠ 0 by omega)
          omega
      · have hn := toNB c
        have e0 : n = 0 := by omega
        subst e0
        rw [Nat.gcd_zero_right] at hg
        have e2 : (m : Int) = gI t b := by
          unfold gI
          rw [hg]
        rw [e2]
        refine ⟨_, rfl, _, rfl, _, _, rfl, rfl, wide_div g0 g1 (by decide) (by decide), _, rfl, _, rfl, _, _, rfl, rfl, wide_div g0 g1 (by decide) (by decide), (by show 2 ≤ sizeLine; decide), fun p hp => ?_⟩
        have := q p hp
        rw [← (lowTP hb).1, ← (lowTP hb).2] at this
        exact this
    · obtain ⟨v, e, i, j, e1, e2, kk, ek, hq⟩ := hh
      exact ⟨v, e, i, j, e1, e2, kk, ek, m _ _ hq⟩
theorem sc__law_figures : FnScope ["_law_word", "_law_sign"] ["_law_word"] (defScope s__law_figures) := ⟨rfl, rfl, rfl, by decide +kernel, rfl, by decide +kernel, by decide +kernel⟩
theorem ok__law_figures {f : Addr} {fd : FuncData} {k : Nat} (F : Fun K "_law_figures" "_law_figures" s__law_figures f fd) (z : Zs mg) : FnOk P w K mg base CX0 (k + 1) f fd ["_law_word"] spFig := by
  refine F.ok sc__law_figures (fun vs H Q E h => ?_) (fun cdv A outer s H vs Q E hr h => ?_)
  · obtain ⟨l, rfl, _⟩ := h
    rfl
  · obtain ⟨l, rfl, hl, q⟩ := h
    refine ⟨_, (pss_cons (ps_if (PW.pt (pw_or (pt_cmpR op_eq (pv 0) pe_str (nomark _)) (pw_or (pt_cmpR op_gt (pe_callB call_len_str (by rfl) z.len PySem.boot_len (pa_cons (pv 0) pa_nil)) pe_int (nomark _)) (pw_or1 (PW.pt (pw_and (pt_cmpR op_eq (pe_ix ix_str (pv 0) pe_int (fun _ _ => rfl)) pe_str (nomark _)) (pw_and1 (pt_cmpR op_ne (pv 0) pe_str (nomark _))))))))) (pss_one (ps_ret pe_bl)) pss_nil)
      (pss_one (ps_ret (pe_not (pe_cmpR op_in_seq pe_bl (pe_lc (own := [("_law_sign", 1)]) (g := gName 1) (tt := tYes) (te := tSign 1) (by rfl) sc__law_figures.nd (pi_str (pv 0)) (blkOk_by (own := [("_law_sign", 1)]) (N := ["_law_word", "_law_sign"]) (sc := defScope s__law_figures) (by decide +kernel)) (fun _ _ _ _ _ => by exact (pg_name (i := 1) sc__law_figures.nd rfl (.inl rfl))) (fun _ _ _ _ _ => by exact pts_nil) (fun _ _ _ _ _ => by exact (pe_cmpR op_in_sign (pv 1) pe_str (by rfl)))) (by rfl)))))), ?_⟩
    have no : ∀ H', Same H H' → figs l = false → Q (.bl false) H' := fun H' s e => by
      rw [← e]
      exact q H' s
    refine ⟨_, rfl, rfl, _, rfl, ?_⟩
    rw [nil_S, eq_S]
    refine ite2 (fun c => ?_) (fun c => ?_)
    · refine no _ (Same.refl _) ?_
      rw [toB c]
      rfl
    refine ⟨_, rfl, _, rfl, (by rw [SX.S_len]; exact sl_le hl), _, _, rfl, rfl, _, rfl, ?_⟩
    rw [SX.S_len]
    refine ite2 (fun c2 => ?_) (fun c2 => ?_)
    · refine no _ (Same.refl _) ?_
      have := toB c2
      cases e : figs l with
      | false => rfl
      | true =>
        have := (figs_iff.mp e).2.1
        omega
    have l0 : l ≠ [] := toNB c
    have l4 : l.length ≤ 400 := by
      have := toNB c2
      omega
    have fin : (l = [48] ∨ l.head? ≠ some 48) → ∀ H4 : Hp, Same H H4 → Q (.bl (!!l.all fun c => decide (48 ≤ c) && decide (c ≤ 57))) H4 := fun h3 H4 s4 => by
      have e : figs l = l.all fun c => decide (48 ≤ c) && decide (c ≤ 57) := by
        cases e2 : l.all fun c => decide (48 ≤ c) && decide (c ≤ 57) with
        | true => exact figs_iff.mpr ⟨l0, l4, h3, all_dig.mp e2⟩
        | false =>
          cases e3 : figs l with
          | false => rfl
          | true =>
            rw [all_dig.mpr (figs_iff.mp e3).2.2.2] at e2
            cases e2
      rw [Bool.not_not, ← e]
      exact q _ s4
    have rest : (l = [48] ∨ l.head? ≠ some 48) → ∀ Da : Addr, H Da = none → ∀ H4 : Hp, Same H H4 ∧ H4 Da = some (.lst ((l.take (SX.S l).cps.size).map fun c => V.bl (decide (48 ≤ c) && decide (c ≤ 57)))) → rIn K false (.bl false) (.ref Da) H4 fun x H' => ∃ c, x = .bl c ∧ Q (.bl (!c)) H' := fun h3 Da hD H4 hP => by
      obtain ⟨s4, hD4⟩ := hP
      rw [size_S, List.take_length] at hD4
      refine ⟨Da, _, rfl, .inl (SqL.of hD4), rfl, ?_, _, rfl, ?_⟩
      · rw [List.all_map, List.all_eq_true]
        exact fun c _ => rfl
      · show Q (.bl (!inV (.bl false) _)) H4
        rw [in_false]
        exact fin h3 H4 s4
    match hm : l, l0 with
    | x :: r, _ =>
      refine ⟨_, rfl, _, _, x, rfl, rfl, (by rw [SX.S_len]; exact sl_le hl), atI_nat (j := 0) rfl, rfl, _, rfl, ?_⟩
      have q0 : decide (V.str ⟨#[x]⟩ = V.str (Str.ofString "0")) = decide (x = 48) := by
        rw [nought_S]
        show decide (V.str (SX.S [x]) = V.str (SX.S [48])) = _
        rw [eq_S]
        by_cases e : x = 48
        · rw [e]
          rfl
        · rw [decide_eq_false e, decide_eq_false (fun z => e (List.cons.inj z).1)]
      rw [q0]
      by_cases hx : x = 48
      · subst hx
        refine iteC (d := true) (by decide) (iteT ⟨_, rfl, rfl, _, rfl, ?_⟩)
        rw [nought_S, eq_S]
        by_cases hr : r = []
        · subst hr
          refine iteC (d := false) (by decide) (iteF ?_)
          refine ⟨_, rfl, _, rfl, fun Da hD => lc_it (walk_str (z := SX.S _)) (fun i H4 => Same H H4 ∧ H4 Da = some (.lst ((List.take i _).map fun c => V.bl (decide (48 ≤ c) && decide (c ≤ 57))))) ⟨same_new hD, upd_same⟩ (fun _ _ _ _ => trivial) (fun i x' H4 H5 hi hP hy => ?_) (fun H4 hP => rest (.inl rfl) Da hD H4 hP)⟩
          obtain ⟨s4, hD4⟩ := hP
          obtain ⟨rfl, c, hcc, rfl⟩ := hy
          refine ⟨rfl, _, rfl, c, _, rfl, rfl, ?_⟩
          rw [figs_mem]
          exact marks_grow (p := fun c => decide (48 ≤ c) && decide (c ≤ 57)) hl hD s4 hD4 (at_S hcc)
        · refine iteC (d := true) (by rw [decide_eq_false (fun z => hr (List.cons.inj z).2)]; rfl) (iteT ?_)
          refine no _ (Same.refl _) ?_
          cases e : figs (48 :: r) with
          | false => rfl
          | true =>
            rcases (figs_iff.mp e).2.2.1 with z | z
            · exact absurd (List.cons.inj z).2 hr
            · exact absurd rfl z
      · refine iteC (d := false) (decide_eq_false hx) (iteF (iteF ?_))
        refine ⟨_, rfl, _, rfl, fun Da hD => lc_it (walk_str (z := SX.S _)) (fun i H4 => Same H H4 ∧ H4 Da = some (.lst ((List.take i _).map fun c => V.bl (decide (48 ≤ c) && decide (c ≤ 57))))) ⟨same_new hD, upd_same⟩ (fun _ _ _ _ => trivial) (fun i x' H4 H5 hi hP hy => ?_) (fun H4 hP => rest (.inr (fun z => hx (Option.some.inj z))) Da hD H4 hP)⟩
        obtain ⟨s4, hD4⟩ := hP
        obtain ⟨rfl, c, hcc, rfl⟩ := hy
        refine ⟨rfl, _, rfl, c, _, rfl, rfl, ?_⟩
        rw [figs_mem]
        exact marks_grow (p := fun c => decide (48 ≤ c) && decide (c ≤ 57)) hl hD s4 hD4 (at_S hcc)
end
end E1

namespace E1
open PySem PySem.Spec PyProof.Rows L2

theorem eqv_two (a b c d : Int) : PyData.eqv (.tuple [.int a, .int b]) (.tuple [.int c, .int d]) = decide (a = c ∧ b = d) := by
  simp only [PyData.eqv, PyData.eqvAll, Bool.and_true]
  rw [Bool.eq_iff_iff]
  simp only [Bool.and_eq_true, beq_iff_eq, decide_eq_true_eq]
theorem head_take {l : List Nat} : (l.take 1 = [45]) ↔ l.head? = some 45 := by
  cases l with
  | nil =>
    constructor
    · intro h
      cases h
    · intro h
      cases h
  | cons x r =>
    constructor
    · intro h
      cases h
      rfl
    · intro h
      cases h
      rfl
theorem low_self {t b : Int} (hb : 0 < b) : (lowT t b = t ∧ lowB t b = b) ↔ gI t b = 1 := by
  obtain ⟨e1, e2⟩ := low_mul (t := t) hb
  constructor
  · rintro ⟨_, h2⟩
    rw [h2] at e2
    have : b * gI t b = b * 1 := by omega
    exact Int.eq_of_mul_eq_mul_left (by omega) this
  · intro h
    rw [h, Int.mul_one] at e1 e2
    exact ⟨e1, e2⟩
theorem from_r (p r : List Nat) : Txt.slice (SX.S (p ++ 47 :: r)) (some ((p.length : Int) + 1)) none = SX.S r := by
  have e : p ++ 47 :: r = (p ++ [47]) ++ r := by simp
  rw [e]
  exact SX.from_app (p ++ [47]) r (by simp)
theorem in_01 (r : List Nat) : inV (sV r) [V.str (Str.ofString "0"), V.str (Str.ofString "1")] = (decide (r = [48]) || decide (r = [49])) := by
  unfold inV
  rw [List.any_cons, List.any_cons, List.any_nil, Bool.or_false]
  show (SX.S [48] == SX.S r || SX.S [49] == SX.S r) = _
  rw [SX.S_beq_eq, SX.S_beq_eq]
  congr 1
  · by_cases h : r = [48]
    · rw [h]
    · rw [decide_eq_false h, decide_eq_false (fun z => h z.symm)]
  · by_cases h : r = [49]
    · rw [h]
    · rw [decide_eq_false h, decide_eq_false (fun z => h z.symm)]
theorem ten_two {n : Nat} (h : n < 10 ^ 400) : n < 2 ^ 4000 := Nat.lt_of_lt_of_le h (by decide +kernel)
theorem numb_figd {l : List Nat} (h : numb l = true) : figd l := Classical.byContradiction fun z => by rw [not_figd z] at h; cases h
section
variable {P : Program} {w : World} {K : PySem.W.Frag} {mg : Str → Option Value} {base : Heap}
theorem sc__law_number : FnScope ["_law_word"] ["_law_word"] (defScope s__law_number) := ⟨rfl, rfl, rfl, by decide +kernel, rfl, by decide +kernel, by decide +kernel⟩
theorem ok__law_number {f : Addr} {fd : FuncData} (F : Fun K "_law_number" "_law_number" s__law_number f fd) (c__law_figures : Cal P w K mg base 1 "_law_figures" ["_law_word"] spFig) : FnOk P w K mg base CX0 2 f fd ["_law_word"] spNum := by
  refine F.ok sc__law_number (fun vs H Q E h => ?_) (fun cdv A outer s H vs Q E hr h => ?_)
  · obtain ⟨l, rfl, _⟩ := h
    rfl
  · obtain ⟨l, rfl, hl, q⟩ := h
    refine ⟨_, (pss_one (ps_ret (pe_or (pe_cal c__law_figures hr (pa_cons (pv 0) pa_nil)) (pe_one (pe_and (pe_cmpR op_eq (pe_slice C8.sl_txt (pv 0) po_none (po_some pe_int)) pe_str (nomark _)) (pe_and (pe_cal c__law_figures hr (pa_cons (pe_slice C8.sl_txt (pv 0) (po_some pe_int) po_none) pa_nil)) (pe_one (pe_cmpR op_ne (pv 0) pe_str (nomark _))))))))), ?_⟩
    have no : ∀ H' b, Same H H' → numb l = b → Q (.bl b) H' := fun H' b s e => by
      rw [← e]
      exact q H' s
    refine ⟨_, rfl, l, rfl, hl, fun H1 s1 => ⟨_, rfl, ?_⟩⟩
    by_cases c1 : figs l = true
    · refine iteC (d := true) c1 (iteT (no _ _ s1 ?_))
      unfold numb
      rw [c1]
      rfl
    · have c1' : figs l = false := by simpa using c1
      refine iteC (d := false) c1' (iteF ?_)
      refine ⟨_, rfl, _, rfl, _, rfl, (by rw [SX.S_len]; exact sl_le hl), rfl, _, rfl, ?_⟩
      rw [minus_S, SX.slice_to (by decide), eq_S]
      show if decide (l.take 1 = [45]) = true then _ else _
      by_cases c2 : l.take 1 = [45]
      · refine iteC (d := true) (decide_eq_true c2) (iteT ?_)
        refine ⟨_, rfl, _, rfl, _, rfl, (by rw [SX.S_len]; exact sl_le hl), ?_⟩
        rw [SX.slice_from (by decide)]
        refine ⟨l.drop 1, rfl, (by rw [List.length_drop]; omega), fun H2 s2 => ⟨_, rfl, ?_⟩⟩
        by_cases c3 : figs (l.drop 1) = true
        · refine iteC (d := true) c3 (iteT ⟨_, rfl, rfl, ?_⟩)
          rw [mnought_S, eq_S]
          refine no _ _ (s1.trans s2) ?_
          unfold numb
          rw [c1', c3, c2, Bool.false_or, Bool.and_true, show (([45] : List Nat) == [45]) = true from rfl, Bool.true_and]
          by_cases e : l = [45, 48]
          · rw [e]
            rfl
          · rw [decide_eq_false e, bne_iff_ne.mpr e]
            rfl
        · have c3' : figs (l.drop 1) = false := by simpa using c3
          refine iteC (d := false) c3' (iteF (no _ _ (s1.trans s2) ?_))
          unfold numb
          rw [c1', c3', Bool.and_false]
          rfl
      · refine iteC (d := false) (decide_eq_false c2) (iteF (no _ _ s1 ?_))
        unfold numb
        rw [c1', beq_eq_false_iff_ne.mpr c2]
        rfl
theorem sc__law_read_fraction : FnScope ["_law_line_text", "_law_at", "_law_found"] ["_law_line_text"] (defScope s__law_read_fraction) := ⟨rfl, rfl, rfl, by decide +kernel, rfl, by decide +kernel, by decide +kernel⟩
theorem ok__law_read_fraction {f : Addr} {fd : FuncData} (F : Fun K "_law_read_fraction" "_law_read_fraction" s__law_read_fraction f fd) (z : Zs mg) (c__law_figures : Cal P w K mg base 1 "_law_figures" ["_law_word"] spFig) (c__law_number : Cal P w K mg base 2 "_law_number" ["_law_word"] spNum) (c__law_low : Cal P w K mg base 1 "_law_low" ["_law_top", "_law_bottom"] spLowP) : FnOk P w K mg base CX0 3 f fd ["_law_line_text"] spRF := by
  refine F.ok sc__law_read_fraction (fun vs H Q E h => ?_) (fun cdv A outer s H vs Q E hr h => ?_)
  · obtain ⟨l, rfl, _⟩ := h
    rfl
  · obtain ⟨l, rfl, hl, q1, q2⟩ := h
    refine ⟨_, (pss_cons (ps_set (i := 1) sc__law_read_fraction.nd rfl (.inl rfl) (pe_bm PySem.F.plainAttrs_str PySem.F.slot_str_find PySem.F.type_str_find mt_find (pv 0) (pa_cons pe_str pa_nil)))
      (pss_cons (ps_if (pt_cmpR op_lt (pv 1) pe_int (nomark _)) (pss_one (ps_ret (pe_ifExp (pt_val (pe_cal c__law_number hr (pa_cons (pv 0) pa_nil))) (pe_tup (pa_cons (pe_callTy call_int_str (by rfl) z.int (by decide +kernel) (pa_cons (pv 0) pa_nil)) (pa_cons pe_int pa_nil))) pe_non))) pss_nil)
      (pss_cons (ps_if (PW.pt (pw_or (pt_not (pt_val (pe_cal c__law_number hr (pa_cons (pe_slice C8.sl_txt (pv 0) po_none (po_some (pv 1))) pa_nil)))) (pw_or (pt_not (pt_val (pe_cal c__law_figures hr (pa_cons (pe_slice C8.sl_txt (pv 0) (po_some (pe_op op_add (pv 1) pe_int)) po_none) pa_nil)))) (pw_or1 (pt_cmpR op_in_seq (pe_slice C8.sl_txt (pv 0) (po_some (pe_op op_add (pv 1) pe_int)) po_none) (pe_tup (pa_cons pe_str (pa_cons pe_str pa_nil))) (by rfl)))))) (pss_one (ps_ret pe_non)) pss_nil)
      (pss_cons (ps_set (i := 2) sc__law_read_fraction.nd rfl (.inl rfl) (pe_tup (pa_cons (pe_callTy call_int_str (by rfl) z.int (by decide +kernel) (pa_cons (pe_slice C8.sl_txt (pv 0) po_none (po_some (pv 1))) pa_nil)) (pa_cons (pe_callTy call_int_str (by rfl) z.int (by decide +kernel) (pa_cons (pe_slice C8.sl_txt (pv 0) (po_some (pe_op op_add (pv 1) pe_int)) po_none) pa_nil)) pa_nil))))
      (pss_one (ps_ret (pe_ifExp (pt_cmpR (op_eqD hr.units) (pe_cal c__law_low hr (pa_cons (pe_ix ix_tup (pv 2) pe_int (fun _ _ => rfl)) (pa_cons (pe_ix ix_tup (pv 2) pe_int (fun _ _ => rfl)) pa_nil))) (pv 2) (nomark _)) (pv 2) pe_non))))))), ?_⟩
    have ls : (SX.S l).length ≤ sizeLine := by rw [SX.S_len]; exact sl_le (by omega)
    refine ⟨_, rfl, rfl, _, _, rfl, rfl, ?_⟩
    rcases first_of 47 l with h47 | ⟨p, r, rfl, hp⟩
    · rw [slash_S, find_no h47]
      have e := readF_no h47
      refine ⟨_, rfl, _, _, rfl, rfl, _, rfl, iteC (d := true) rfl (iteT ?_)⟩
      refine ⟨_, rfl, l, rfl, by omega, fun H1 s1 => ⟨_, rfl, ?_⟩⟩
      by_cases c : numb l = true
      · rw [if_pos c] at e
        have fd := numb_figd c
        refine iteC (d := true) c (iteT ⟨_, rfl, _, _, rfl, valL_int fd, (by rw [SX.S_len]; have := figd_len fd; omega), (by show 2 ≤ sizeLine; decide), fun p2 hp2 => ?_⟩)
        exact q2 _ _ e _ _ (s1.trans (same_new hp2)) upd_same
      · rw [if_neg c] at e
        exact iteC (d := false) (by simpa using c) (iteF (q1 e _ s1))
    · rw [slash_S, find_at hp]
      have e := readF_at (q := r) hp
      have lp : (p ++ 47 :: r).length = p.length + (r.length + 1) := by rw [List.length_append, List.length_cons]
      have nn : ∀ H', Same H H' → ¬ (numb p = true ∧ figs r = true ∧ ¬ r = [48] ∧ ¬ r = [49] ∧ gI (valL p) (valL r) = 1) → Q .non H' := fun H' s c => q1 (by rw [e, if_neg c]) _ s
      refine ⟨_, rfl, _, _, rfl, rfl, _, rfl, iteC (d := false) (decide_eq_false (by omega)) (iteF ?_)⟩
      refine ⟨_, rfl, _, rfl, _, rfl, _, rfl, ls, ?_⟩
      rw [SX.to_app p _ rfl]
      refine ⟨p, rfl, by omega, fun H1 s1 => ⟨_, rfl, ?_⟩⟩
      by_cases c1 : numb p = true
      case neg => exact iteC (d := true) (by rw [show numb p = false by simpa using c1]; rfl) (iteT (nn _ s1 (fun z => c1 z.1)))
      refine iteC (d := false) (by rw [c1]; rfl) (iteF ?_)
      refine ⟨_, rfl, _, rfl, _, _, rfl, rfl, _, rfl, _, rfl, ls, ?_⟩
      rw [from_r]
      refine ⟨r, rfl, by omega, fun H2 s2 => ⟨_, rfl, ?_⟩⟩
      by_cases c2 : figs r = true
      case neg => exact iteC (d := true) (by rw [show figs r = false by simpa using c2]; rfl) (iteT (nn _ (s1.trans s2) (fun z => c2 z.2.1)))
      refine iteC (d := false) (by rw [c2]; rfl) (iteF ?_)
      refine ⟨_, rfl, _, rfl, _, _, rfl, rfl, _, rfl, _, rfl, ls, ?_⟩
      rw [from_r]
      refine ⟨(by show 2 ≤ sizeLine; decide), fun p3 hp3 => ⟨p3, _, rfl, .inr (SqT.of upd_same), rfl, rfl, _, rfl, ?_⟩⟩
      have s3 := same_new (o := .tup [V.str (Str.ofString "0"), V.str (Str.ofString "1")]) hp3
      have st := (s1.trans s2).trans s3
      show if inV (sV r) [V.str (Str.ofString "0"), V.str (Str.ofString "1")] = true then _ else _
      rw [in_01]
      by_cases c3 : r = [48]
      · exact iteC (d := true) (by rw [decide_eq_true c3]; rfl) (iteT (nn _ st (fun z => z.2.2.1 c3)))
      by_cases c4 : r = [49]
      · exact iteC (d := true) (by rw [decide_eq_true c4, Bool.or_true]) (iteT (nn _ st (fun z => z.2.2.2.1 c4)))
      refine iteC (d := false) (by rw [decide_eq_false c3, decide_eq_false c4]; rfl) (iteF ?_)
      obtain ⟨v1, v2, v3, v4⟩ := figs_val c2
      have f1 := numb_figd c1
      have f2 := numb_figd v1
      have n0 : 0 < valL r := by
        have : valL r ≠ 0 := fun z => c3 (v3.mpr z)
        omega
      refine ⟨_, rfl, _, rfl, _, rfl, _, rfl, ls, ?_⟩
      rw [SX.to_app p _ rfl]
      refine ⟨_, _, rfl, valL_int f1, (by rw [SX.S_len]; have := figd_len f1; omega), ?_⟩
      refine ⟨_, rfl, _, rfl, _, _, rfl, rfl, _, rfl, _, rfl, ls, ?_⟩
      rw [from_r]
      refine ⟨_, _, rfl, valL_int f2, (by rw [SX.S_len]; have := figd_len f2; omega), (by show 2 ≤ sizeLine; decide), fun p4 hp4 => ?_⟩
      have s4 := same_new (o := .tup [.int (valL p), .int (valL r)]) hp4
      refine ⟨_, rfl, p4, _, 0, .int (valL p), rfl, rfl, SqT.of upd_same, a0, _, rfl, p4, _, 1, .int (valL r), rfl, rfl, SqT.of upd_same, a1, valL p, valL r, rfl, n0, ten_two (valL_size f2), fun p5 hp5 => ?_⟩
      have s5 := same_new (o := .tup [.int (lowT (valL p) (valL r)), .int (lowB (valL p) (valL r))]) hp5
      have h4 := s5 _ _ (upd_same (H := _) (a := p4))
      refine ⟨_, rfl, .tuple [.int (lowT (valL p) (valL r)), .int (lowB (valL p) (valL r))], .tuple [.int (valL p), .int (valL r)], .tup (SqT.of upd_same) (.cons (.int _) (.cons (.int _) .nil)), .tup (SqT.of h4) (.cons (.int _) (.cons (.int _) .nil)), rfl, rfl, _, rfl, ?_⟩
      rw [eqv_two]
      by_cases c5 : gI (valL p) (valL r) = 1
      · refine iteC (d := true) (decide_eq_true ((low_self n0).mpr c5)) (iteT ⟨_, rfl, ?_⟩)
        exact q2 _ _ (by rw [e, if_pos ⟨c1, c2, c3, c4, c5⟩]) _ _ ((st.trans s4).trans s5) h4
      · exact iteC (d := false) (decide_eq_false (fun z => c5 ((low_self n0).mp z))) (iteF (nn _ ((st.trans s4).trans s5) (fun z => c5 z.2.2.2.2)))
theorem sc__law_read_way : FnScope ["_law_line_text", "_law_word"] ["_law_line_text"] (defScope s__law_read_way) := ⟨rfl, rfl, rfl, by decide +kernel, rfl, by decide +kernel, by decide +kernel⟩
theorem ok__law_read_way {f : Addr} {fd : FuncData} (F : Fun K "_law_read_way" "_law_read_way" s__law_read_way f fd) (z : Zs mg) (c__law_number : Cal P w K mg base 2 "_law_number" ["_law_word"] spNum) : FnOk P w K mg base CX0 3 f fd ["_law_line_text"] spRW := by
  refine F.ok sc__law_read_way (fun vs H Q E h => ?_) (fun cdv A outer s H vs Q E hr h => ?_)
  · obtain ⟨l, rfl, _⟩ := h
    rfl
  · obtain ⟨l, rfl, hl, q1, q2⟩ := h
    refine ⟨_, (pss_cons (ps_if (pt_cmpR op_eq (pv 0) pe_str (nomark _)) (pss_one (ps_ret (pe_lst pa_nil))) pss_nil)
      (pss_cons (ps_if (pt_cmpR op_in_seq pe_bl (pe_lc (own := [("_law_word", 1)]) (g := gName 1) (tt := tYes) (te := (tCall spNum [] E0 (tCons (tVar 1) tNil))) (by rfl) sc__law_read_way.nd (pi_list (pe_split (pv 0) pe_str)) (blkOk_by (own := [("_law_word", 1)]) (N := ["_law_line_text", "_law_word"]) (sc := defScope s__law_read_way) (by decide +kernel)) (fun _ _ _ _ _ => by exact (pg_name (i := 1) sc__law_read_way.nd rfl (.inl rfl))) (fun _ _ _ _ _ => by exact pts_nil) (fun _ _ _ _ _ => by exact (pe_cal c__law_number hr (pa_cons (pv 1) pa_nil)))) (by rfl)) (pss_one (ps_ret pe_non)) pss_nil)
      (pss_one (ps_ret (pe_lc (own := [("_law_word", 1)]) (g := gName 1) (tt := tYes) (te := (tCB (fun xs H Q => ∃ a n, xs = [.str a] ∧ PySem.intText? a = some n ∧ a.length ≤ 640 ∧ Q (.int n) H) (tCons (tVar 1) tNil))) (by rfl) sc__law_read_way.nd (pi_list (pe_split (pv 0) pe_str)) (blkOk_by (own := [("_law_word", 1)]) (N := ["_law_line_text", "_law_word"]) (sc := defScope s__law_read_way) (by decide +kernel)) (fun _ _ _ _ _ => by exact (pg_name (i := 1) sc__law_read_way.nd rfl (.inl rfl))) (fun _ _ _ _ _ => by exact pts_nil) (fun _ _ _ _ _ => by exact (pe_callTy call_int_str (by rfl) z.int (by decide +kernel) (pa_cons (pv 1) pa_nil)))))))), ?_⟩
    have ls : (SX.S l).length + 2 ≤ sizeLine := by rw [SX.S_len]; exact sl_le (by omega)
    unfold readW at q1 q2
    refine ⟨_, rfl, rfl, _, rfl, ?_⟩
    rw [nil_S, eq_S]
    by_cases c : l = []
    · rw [if_pos c] at q2
      exact iteC (d := true) (decide_eq_true c) (iteT ⟨(by show 0 ≤ sizeLine; decide), fun p hp => q2 [] rfl p _ (same_new hp) upd_same⟩)
    rw [if_neg c] at q1 q2
    refine iteC (d := false) (decide_eq_false c) (iteF ?_)
    obtain ⟨sz1, sz2⟩ := spl_sizes 32 l []
    have hsz : ∀ m ∈ TL.spl [32] 0 [] l, m.length ≤ 100000 := fun m hm => by
      have := sz2 m hm
      rw [List.length_nil] at this
      omega
    refine ⟨_, rfl, ⟨_, rfl⟩, _, _, rfl, rfl, rfl, ls, fun p hp => ?_⟩
    have s1 := same_new (o := .lst ((Txt.split (SX.S l) (SX.S [32])).map V.str)) hp
    have hS : SqL K (upd H p (.lst ((Txt.split (SX.S l) (SX.S [32])).map V.str))) p ((TL.spl [32] 0 [] l).map sV) := SqL.of (by rw [← split_at 32 (by decide) l]; exact upd_same)
    have sp := split_at 32 (by decide) l
    generalize TL.spl [32] 0 [] l = ws at *
    refine ⟨_, rfl, ⟨_, hS⟩, fun Da hD => lc_it (walk_list (K := K) (a := p) (xs := ws.map sV)) (fun i H4 => Same _ H4 ∧ H4 Da = some (.lst ((ws.take i).map fun m => V.bl (numb m)))) ⟨same_new hD, upd_same⟩ (fun i H4 hi hP => Same.sqL hP.1 hS) (fun i x' H4 H5 hi hP hy => ?_) (fun H4 hP => ?_)⟩
    · obtain ⟨s4, hD4⟩ := hP
      obtain ⟨rfl, hx⟩ := hy
      rw [List.getElem?_map] at hx
      obtain ⟨m, hm, rfl⟩ := Option.map_eq_some_iff.mp hx
      refine ⟨rfl, _, rfl, m, rfl, hsz m (List.mem_of_getElem? hm), fun H6 s6 => ?_⟩
      exact list_grow (p := fun m => V.bl (numb m)) (by omega) hD s4 hD4 s6 hm
    · obtain ⟨s4, hD4⟩ := hP
      rw [List.length_map, List.take_length] at hD4
      have st : Same H H4 := s1.trans s4
      refine ⟨Da, _, rfl, .inl (SqL.of hD4), rfl, ?_, _, rfl, ?_⟩
      · rw [List.all_map, List.all_eq_true]
        exact fun c _ => rfl
      · show if inV (.bl false) _ = true then _ else _
        rw [in_false2]
        cases e : ws.all numb with
        | false =>
          refine iteT (q1 ?_ _ st)
          unfold wholesL
          rw [e]
          rfl
        | true =>
          refine iteF ⟨_, rfl, ⟨_, rfl⟩, _, _, rfl, rfl, rfl, ls, fun p2 hp2 => ?_⟩
          have s2 := same_new (o := .lst ((Txt.split (SX.S l) (SX.S [32])).map V.str)) hp2
          have hS2 : SqL K (upd H4 p2 (.lst ((Txt.split (SX.S l) (SX.S [32])).map V.str))) p2 (ws.map sV) := SqL.of (by rw [← sp]; exact upd_same)
          refine ⟨_, rfl, ⟨_, hS2⟩, fun Db hDb => lc_it (walk_list (K := K) (a := p2) (xs := ws.map sV)) (fun i H5 => Same _ H5 ∧ H5 Db = some (.lst ((ws.take i).map fun m => V.int (valL m)))) ⟨same_new hDb, upd_same⟩ (fun i H5 hi hP => Same.sqL hP.1 hS2) (fun i x' H5 H6 hi hP hy => ?_) (fun H5 hP => ?_)⟩
          · obtain ⟨s5, hD5⟩ := hP
            obtain ⟨rfl, hx⟩ := hy
            rw [List.getElem?_map] at hx
            obtain ⟨m, hm, rfl⟩ := Option.map_eq_some_iff.mp hx
            have fd := numb_figd (List.all_eq_true.mp e m (List.mem_of_getElem? hm))
            refine ⟨rfl, _, rfl, _, _, rfl, valL_int fd, (by rw [SX.S_len]; have := figd_len fd; omega), ?_⟩
            exact list_grow (p := fun m => V.int (valL m)) (by omega) hDb s5 hD5 (Same.refl _) hm
          · obtain ⟨s5, hD5⟩ := hP
            rw [List.length_map, List.take_length] at hD5
            refine q2 (ws.map valL) ?_ Db _ ((st.trans s2).trans s5) (by rw [hD5, List.map_map]; rfl)
            unfold wholesL
            rw [if_pos e]
theorem sc__law_due : FnScope ["_law_thing"] ["_law_thing"] (defScope s__law_due) := ⟨rfl, rfl, rfl, by decide +kernel, rfl, by decide +kernel, by decide +kernel⟩
theorem ok__law_due {f : Addr} {fd : FuncData} {k : Nat} (F : Fun K "_law_due" "_law_due" s__law_due f fd) : FnOk P w K mg base CX0 (k + 1) f fd ["_law_thing"] spDue := by
  refine F.ok sc__law_due (fun vs H Q E h => ?_) (fun cdv A outer s H vs Q E hr h => ?_)
  · obtain ⟨x, rfl, _⟩ := h
    rfl
  · obtain ⟨x, rfl, h⟩ := h
    refine ⟨_, (pss_cons (ps_if (pt_cmpR op_isN (pv 0) pe_non (nomark _)) (pss_one (ps_ret pe_str)) pss_nil)
      (pss_one (ps_ret (pe_tup (pa_cons pe_str (pa_cons (pv 0) pa_nil)))))), ?_⟩
    rcases h with ⟨rfl, q⟩ | ⟨hx, q⟩
    · exact ⟨_, rfl, rfl, _, rfl, iteT q⟩
    · refine ⟨_, rfl, rfl, _, rfl, iteC (d := false) (decide_eq_false hx) (iteF ⟨_, rfl, (by show 2 ≤ sizeLine; decide), fun p hp => q p hp⟩)⟩
end
end E1

namespace E1
open PySem PySem.Spec PyProof.Rows L2

theorem big9 : (1000000000 : Int) < 10 ^ 400 := by decide +kernel
/-- what lies at a well's place is no new thing -/
theorem WellAt.ne {H : Hp} {a p : Addr} {c : Int} (h : WellAt H a c) (hp : H p = none) : p ≠ a := fun e => by
  obtain ⟨x, y, z, ha, _⟩ := h
  rw [← e, hp] at ha
  cases ha

theorem ten_step {f r : Int} {i : Nat} (h0 : 0 ≤ f) (h1 : f < 10 ^ (8 * i)) (r0 : 0 ≤ r) (r1 : r < 100000000) : 0 ≤ f * 100000000 + r ∧ f * 100000000 + r < 10 ^ (8 * (i + 1)) := by
  have e : (10 : Int) ^ (8 * (i + 1)) = 10 ^ (8 * i) * 100000000 := by
    rw [Nat.mul_add, Int.pow_add]
    rfl
  rw [e]
  have : f + 1 ≤ 10 ^ (8 * i) := h1
  have := Int.mul_le_mul_of_nonneg_right this (show (0 : Int) ≤ 100000000 by decide)
  omega
section
variable {P : Program} {w : World} {K : PySem.W.Frag} {mg : Str → Option Value} {base : Heap}
theorem sc__law_great : FnScope ["_law_well_here", "_law_sort", "_law_found", "_law_k"] ["_law_well_here"] (defScope s__law_great) := ⟨rfl, rfl, rfl, by decide +kernel, rfl, by decide +kernel, by decide +kernel⟩
theorem ok__law_great {f : Addr} {fd : FuncData} (F : Fun K "_law_great" "_law_great" s__law_great f fd) (z : Zs mg) (c__law_draw : Cal P w K mg base 1 "_law_draw" ["_law_well_here", "_law_many"] spDraw) : FnOk P w K mg base CX0 2 f fd ["_law_well_here"] spGreat := by
  refine F.ok sc__law_great (fun vs H Q E h => ?_) (fun cdv A outer s H vs Q E hr h => ?_)
  · obtain ⟨a, c, rfl, _⟩ := h
    rfl
  · obtain ⟨a, c, rfl, hw, c0, c1, q⟩ := h
    refine ⟨_, (pss_cons (ps_set (i := 1) sc__law_great.nd rfl (.inl rfl) (pe_cal c__law_draw hr (pa_cons (pv 0) (pa_cons pe_int pa_nil))))
      (pss_cons (ps_if (pt_cmpR op_lt (pv 1) pe_int (nomark _)) (pss_one (ps_ret (pe_cal c__law_draw hr (pa_cons (pv 0) (pa_cons (pe_ix ix_list (pe_lst (pa_cons pe_int (pa_cons pe_int (pa_cons (pe_op op_pow pe_int pe_int) pa_nil)))) (pv 1) (fun _ _ => rfl)) pa_nil))))) pss_nil)
      (pss_cons (ps_set (i := 2) sc__law_great.nd rfl (.inl rfl) pe_int)
      (pss_cons (ps_for PassesOwn.never rfl (pi_range1 (by rfl) z.range (pa_cons (pe_ix ix_list (pe_lst (pa_cons pe_int (pa_cons pe_int pa_nil))) (pe_op op_sub (pv 1) pe_int) (fun _ _ => rfl)) pa_nil)) (pg_name (i := 3) sc__law_great.nd rfl (.inl rfl)) (pss_one (ps_set (i := 2) sc__law_great.nd rfl (.inl rfl) (pe_op op_add (pe_op op_mul (pv 2) (pe_op op_pow pe_int pe_int)) (pe_cal c__law_draw hr (pa_cons (pv 0) (pa_cons (pe_op op_pow pe_int pe_int) pa_nil)))))))
      (pss_one (ps_ret (pv 2))))))), ?_⟩
    refine ⟨_, rfl, a, c, 5, rfl, hw, by omega, by decide, by decide, fun r H1 r0 r1 b1 n1 w1 => ?_⟩
    refine ⟨_, rfl, _, _, rfl, rfl, _, rfl, ite2 (fun k => ?_) (fun k => ?_)⟩
    · have k3 := toB k
      refine ⟨_, rfl, _, _, rfl, rfl, ⟨by decide, by decide, by decide⟩, (by show 3 ≤ sizeLine; decide), fun p hp => ?_⟩
      have np : p ≠ a := w1.ne hp
      have s2 := same_new (o := .lst [V.int 2, V.int 12, V.int (10 ^ (9 : Int).toNat)]) hp
      have w2 := w1.same s2
      have fin : ∀ m : Int, 0 < m → m ≤ 1000000000 → spDraw [.ref a, .int m] (upd H1 p (.lst [V.int 2, V.int 12, V.int (10 ^ (9 : Int).toNat)])) Q E0 := fun m m0 m1 => by
        refine ⟨a, c + 1, m, rfl, w2, by omega, m0, ?_, fun r' H3 r0' r1' b3 n3 w3 => ?_⟩
        · refine Nat.lt_of_le_of_lt (show m.natAbs ≤ 1000000000 by omega) (by decide +kernel)
        · refine q _ _ r0' (Int.lt_trans (Int.lt_of_lt_of_le r1' m1) big9) (b1.trans ((SameBut.of s2).trans b3)) (w3.mono (by omega))
      rcases (by omega : r = 0 ∨ r = 1 ∨ r = 2) with rfl | rfl | rfl
      · exact ⟨_, rfl, p, _, 0, .int 2, rfl, rfl, SqL.of upd_same, a0, fin 2 (by decide) (by decide)⟩
      · exact ⟨_, rfl, p, _, 1, .int 12, rfl, rfl, SqL.of upd_same, a1, fin 12 (by decide) (by decide)⟩
      · exact ⟨_, rfl, p, _, 2, .int (10 ^ (9 : Int).toNat), rfl, rfl, SqL.of upd_same, a2, fin _ (by decide) (by decide)⟩
    · have k3 := toNB k
      refine ⟨(by show 2 ≤ sizeLine; decide), fun p hp => ?_⟩
      have s2 := same_new (o := .lst [V.int 5, V.int 50]) hp
      have w2 := w1.same s2
      obtain ⟨m, m50, hm⟩ : ∃ m : Nat, m ≤ 50 ∧ atI [V.int 5, V.int 50] (r - 3) = some (.int (m : Int)) := by
        rcases (by omega : r = 3 ∨ r = 4) with rfl | rfl
        · exact ⟨5, by decide, a0⟩
        · exact ⟨50, by decide, a1⟩
      refine ⟨_, rfl, _, _, rfl, rfl, p, _, r - 3, .int (m : Int), rfl, rfl, SqL.of upd_same, hm, _, rfl, by omega, by omega, ?_⟩
      refine for_it walk_range (fun i σ H' => ∃ (f : Int) (y : Option V), σ = [some (.ref a), some (.int r), some (.int f), y] ∧ 0 ≤ f ∧ f < 10 ^ (8 * i) ∧ SameBut a H H' ∧ WellAt H' a (c + 1 + i)) ⟨0, none, rfl, Int.le_refl _, by decide, b1.trans (SameBut.of s2), w2.mono (by omega)⟩ (fun _ _ _ _ _ => trivial) (fun i x σ H4 H5 hi hP hY => ?_) (fun σ H4 hP => ?_)
      · obtain ⟨f, y, rfl, f0, f1, b4, w4⟩ := hP
        obtain ⟨rfl, rfl⟩ := hY
        refine ⟨_, rfl, _, _, rfl, rfl, ⟨by decide, by decide, by decide⟩, _, _, rfl, rfl, .inr ⟨by decide, by decide⟩, _, rfl, _, _, rfl, rfl, ⟨by decide, by decide, by decide⟩, a, _, _, rfl, w4, by omega, by decide, by decide +kernel, fun r' H6 r0' r1' b6 n6 w6 => ?_⟩
        obtain ⟨t0, t1⟩ := ten_step f0 f1 r0' r1'
        exact ⟨_, _, rfl, rfl, _, _, rfl, t0, t1, b4.trans b6, w6.mono (by omega)⟩
      · obtain ⟨f, y, rfl, f0, f1, b4, w4⟩ := hP
        refine ⟨_, rfl, q _ _ f0 (Int.lt_of_lt_of_le f1 ?_) b4 (w4.mono (by omega))⟩
        have : (10 : Nat) ^ (8 * m) ≤ 10 ^ 400 := Nat.pow_le_pow_right (by decide) (by omega)
        exact_mod_cast this
theorem sc__law_spoilt : FnScope ["_law_line_text", "_law_well_here", "_law_sort", "_law_at", "_law_sign"] ["_law_line_text", "_law_well_here"] (defScope s__law_spoilt) := ⟨rfl, rfl, rfl, by decide +kernel, rfl, by decide +kernel, by decide +kernel⟩
theorem ok__law_spoilt {f : Addr} {fd : FuncData} (F : Fun K "_law_spoilt" "_law_spoilt" s__law_spoilt f fd) (z : Zs mg) (c__law_draw : Cal P w K mg base 1 "_law_draw" ["_law_well_here", "_law_many"] spDraw) : FnOk P w K mg base CX0 2 f fd ["_law_line_text", "_law_well_here"] spSpoil := by
  refine F.ok sc__law_spoilt (fun vs H Q E h => ?_) (fun cdv A outer s H vs Q E hr h => ?_)
  · obtain ⟨l, a, c, rfl, _⟩ := h
    rfl
  · obtain ⟨l, a, c, rfl, hl, hw, c0, c1, q⟩ := h
    refine ⟨_, (pss_cons (ps_set (i := 2) sc__law_spoilt.nd rfl (.inl rfl) (pe_cal c__law_draw hr (pa_cons (pv 1) (pa_cons pe_int pa_nil))))
      (pss_cons (ps_set (i := 3) sc__law_spoilt.nd rfl (.inl rfl) (pe_cal c__law_draw hr (pa_cons (pv 1) (pa_cons (pe_op op_add (pe_callB call_len_str (by rfl) z.len PySem.boot_len (pa_cons (pv 0) pa_nil)) pe_int) pa_nil))))
      (pss_cons (ps_set (i := 4) sc__law_spoilt.nd rfl (.inl rfl) (pe_ix ix_list (pe_lst (pa_cons pe_str (pa_cons pe_str (pa_cons pe_str (pa_cons pe_str (pa_cons pe_str (pa_cons pe_str (pa_cons pe_str (pa_cons pe_str (pa_cons pe_str (pa_cons pe_str (pa_cons pe_str (pa_cons pe_str pa_nil))))))))))))) (pe_cal c__law_draw hr (pa_cons (pv 1) (pa_cons pe_int pa_nil))) (fun _ _ => rfl)))
      (pss_cons (ps_if (pt_cmpR op_eq (pv 2) pe_int (nomark _)) (pss_one (ps_ret (pe_op op_add_str (pe_slice C8.sl_txt (pv 0) po_none (po_some (pv 3))) (pe_slice C8.sl_txt (pv 0) (po_some (pe_op op_add (pv 3) pe_int)) po_none)))) pss_nil)
      (pss_cons (ps_if (pt_cmpR op_eq (pv 2) pe_int (nomark _)) (pss_one (ps_ret (pe_op op_add_str (pe_op op_add_str (pe_slice C8.sl_txt (pv 0) po_none (po_some (pv 3))) (pv 4)) (pe_slice C8.sl_txt (pv 0) (po_some (pe_op op_add (pv 3) pe_int)) po_none)))) pss_nil)
      (pss_one (ps_ret (pe_op op_add_str (pe_op op_add_str (pe_slice C8.sl_txt (pv 0) po_none (po_some (pv 3))) (pv 4)) (pe_slice C8.sl_txt (pv 0) (po_some (pv 3)) po_none))))))))), ?_⟩
    have ls : (SX.S l).length ≤ sizeLine := by rw [SX.S_len]; exact sl_le (by omega)
    refine ⟨_, rfl, a, c, 4, rfl, hw, by omega, by decide, by decide +kernel, fun r H1 r0 r1 b1 n1 w1 => ?_⟩
    refine ⟨_, rfl, _, rfl, _, rfl, ls, _, _, rfl, rfl, a, c + 1, _, rfl, w1, by omega, by omega, ?_, fun i H2 i0 i1 b2 n2 w2 => ?_⟩
    · rw [SX.S_len]
      refine Nat.lt_of_le_of_lt (show ((l.length : Int) + 1).natAbs ≤ 100000 by omega) (by decide +kernel)
    rw [SX.S_len] at i1
    refine ⟨(by show 12 ≤ sizeLine; decide), fun p hp => ?_⟩
    have s3 := same_new (o := .lst ([48, 32, 45, 47, 49, 43, 46, 120, 10, 57, 95, 50].map fun c => sV [c])) hp
    refine ⟨_, rfl, a, c + 1 + 1, 12, rfl, w2.same s3, by omega, by decide, by decide +kernel, fun j H4 j0 j1 b4 n4 w4 => ?_⟩
    have np : p ≠ a := w2.ne hp
    have hp4 : H4 p = some (.lst ([48, 32, 45, 47, 49, 43, 46, 120, 10, 57, 95, 50].map fun c => sV [c])) := b4 _ _ np upd_same
    obtain ⟨x, hx⟩ : ∃ x : Nat, atI ([48, 32, 45, 47, 49, 43, 46, 120, 10, 57, 95, 50].map fun c => sV [c]) j = some (sV [x]) := by
      have jn : j.toNat < 12 := by omega
      have key : ∀ k : Fin 12, ∃ x : Nat, ([48, 32, 45, 47, 49, 43, 46, 120, 10, 57, 95, 50].map fun c => sV [c])[k.val]? = some (sV [x]) := fun k => ⟨[48, 32, 45, 47, 49, 43, 46, 120, 10, 57, 95, 50][k.val]'k.isLt, by rw [List.getElem?_map, List.getElem?_eq_getElem (show k.val < [48, 32, 45, 47, 49, 43, 46, 120, 10, 57, 95, 50].length from k.isLt)]; rfl⟩
      obtain ⟨x, hx⟩ := key ⟨j.toNat, jn⟩
      refine ⟨x, ?_⟩
      have e : j = ((j.toNat : Nat) : Int) := by omega
      rw [e]
      exact atI_nat hx
    refine ⟨p, _, j, _, rfl, rfl, SqL.of hp4, hx, ?_⟩
    have bt : SameBut a H H4 := b1.trans (b2.trans ((SameBut.of s3).trans b4))
    have wt : WellAt H4 a (c + 3) := w4.mono (by omega)
    have t1 : (SX.S (l.take i.toNat)).length ≤ 80000 := by rw [SX.S_len, List.length_take]; omega
    have i2 : i.toNat ≤ l.length := by omega
    refine ⟨_, rfl, rfl, _, rfl, ?_⟩
    by_cases k0 : r = 0
    · refine iteC (d := true) (by rw [k0]; rfl) (iteT ?_)
      refine ⟨_, rfl, _, rfl, _, rfl, _, rfl, ls, ?_⟩
      rw [SX.slice_to i0]
      refine ⟨_, rfl, _, rfl, _, _, rfl, rfl, _, rfl, _, rfl, ls, ?_⟩
      rw [SX.slice_from (by omega)]
      refine ⟨_, _, rfl, rfl, ?_, ?_⟩
      · rw [SX.S_len, SX.S_len, List.length_take, List.length_drop]
        exact sl_le (by omega)
      · rw [SX.S_cat]
        refine q _ _ ?_ bt wt
        rw [List.length_append, List.length_take, List.length_drop]
        omega
    refine iteC (d := false) (by rw [decide_eq_false_iff_not]; exact fun z => k0 (V.int.inj z)) (iteF ⟨_, rfl, rfl, _, rfl, ?_⟩)
    by_cases k1 : r = 1
    · refine iteC (d := true) (by rw [k1]; rfl) (iteT ?_)
      refine ⟨_, rfl, _, rfl, _, rfl, _, rfl, ls, ?_⟩
      rw [SX.slice_to i0]
      refine ⟨_, rfl, _, _, rfl, rfl, ?_, ?_⟩
      · rw [SX.S_len, SX.S_len, List.length_take]
        exact sl_le (by simp only [List.length_singleton]; omega)
      refine ⟨_, rfl, _, rfl, _, _, rfl, rfl, _, rfl, _, rfl, ls, ?_⟩
      rw [SX.slice_from (by omega), SX.S_cat]
      refine ⟨_, _, rfl, rfl, ?_, ?_⟩
      · rw [SX.S_len, SX.S_len, List.length_append, List.length_take, List.length_drop]
        exact sl_le (by simp only [List.length_singleton]; omega)
      · rw [SX.S_cat]
        refine q _ _ ?_ bt wt
        rw [List.length_append, List.length_append, List.length_take, List.length_drop, List.length_singleton]
        omega
    · refine iteC (d := false) (by rw [decide_eq_false_iff_not]; exact fun z => k1 (V.int.inj z)) (iteF ?_)
      refine ⟨_, rfl, _, rfl, _, rfl, _, rfl, ls, ?_⟩
      rw [SX.slice_to i0]
      refine ⟨_, rfl, _, _, rfl, rfl, ?_, ?_⟩
      · rw [SX.S_len, SX.S_len, List.length_take]
        exact sl_le (by simp only [List.length_singleton]; omega)
      refine ⟨_, rfl, _, rfl, _, rfl, _, rfl, ls, ?_⟩
      rw [SX.slice_from i0, SX.S_cat]
      refine ⟨_, _, rfl, rfl, ?_, ?_⟩
      · rw [SX.S_len, SX.S_len, List.length_append, List.length_take, List.length_drop]
        exact sl_le (by simp only [List.length_singleton]; omega)
      · rw [SX.S_cat]
        refine q _ _ ?_ bt wt
        rw [List.length_append, List.length_append, List.length_take, List.length_drop, List.length_singleton]
        omega
end
end E1

namespace E1
open PySem PySem.Spec PyProof.Rows L2

/-! ### kinds of things -/
inductive Kd (H : Hp) : V → String → Prop where
  | int (n : Int) : Kd H (.int n) "int"
  | bl (b : Bool) : Kd H (.bl b) "bool"
  | str (y : Str) : Kd H (.str y) "str"
  | non : Kd H .non "NoneType"
  | tup {p : Addr} {xs : List V} (e : H p = some (.tup xs)) : Kd H (.ref p) "tuple"
  | lst {p : Addr} {xs : List V} (e : H p = some (.lst xs)) : Kd H (.ref p) "list"
  | dK {p : Addr} {kv : List (Key × V)} (e : H p = some (.dK kv)) : Kd H (.ref p) "dict"
theorem Kd.ty {K : PySem.W.Frag} {H : Hp} {x : V} {t : String} (h : Kd H x t) : TyX K H x (.type t) := by
  cases h with
  | int n => exact .base (.int n)
  | bl b => exact .base (.bl b)
  | str y => exact .base (.str y)
  | non => exact .base .non
  | tup e => exact .base (.tup e)
  | lst e => exact .base (.lst e)
  | dK e => exact .base (.dK e)
theorem Kd.there {H : Hp} {x : V} {t : String} {p : Addr} (h : Kd H x t) (e : x = .ref p) : ∃ o, H p = some o := by
  cases h with
  | int n => cases e
  | bl b => cases e
  | str y => cases e
  | non => cases e
  | tup q => cases e; exact ⟨_, q⟩
  | lst q => cases e; exact ⟨_, q⟩
  | dK q => cases e; exact ⟨_, q⟩
/-- what a thing refers to stays -/
def StaysV (H H' : Hp) (x : V) : Prop := ∀ p o, x = .ref p → H p = some o → (∀ ps, o ≠ .tbl ps) → H' p = some o
theorem Kd.keep {H H' : Hp} {x : V} {t : String} (h : Kd H x t) (k : StaysV H H' x) : Kd H' x t := by
  cases h with
  | int n => exact .int n
  | bl b => exact .bl b
  | str y => exact .str y
  | non => exact .non
  | tup e => exact .tup (k _ _ rfl e (fun _ z => by cases z))
  | lst e => exact .lst (k _ _ rfl e (fun _ z => by cases z))
  | dK e => exact .dK (k _ _ rfl e (fun _ z => by cases z))
theorem StaysV.of {H H' : Hp} {x : V} (s : Same H H') : StaysV H H' x := fun p o _ e _ => s p o e
theorem StaysV.but {H H' : Hp} {a : Addr} {x : V} (s : SameBut a H H') (n : x ≠ .ref a) : StaysV H H' x := fun p o e1 e2 _ => s p o (fun z => n (by rw [e1, z])) e2
theorem StaysV.ext {H H' : Hp} {x : V} (s : LamX.ExtN H H') : StaysV H H' x := fun p o _ e n => s p o e n
theorem StaysV.trans {H H1 H2 : Hp} {x : V} (a : StaysV H H1 x) (b : StaysV H1 H2 x) : StaysV H H2 x := fun p o e1 e2 n => b p o e1 (a p o e1 e2 n) n
theorem StaysV.nr {H H1 : Hp} {x : V} (h : ∀ p, x ≠ .ref p) : StaysV H H1 x := fun p o e1 _ _ => absurd e1 (h p)
/-! ### calls within a lambda that may raise -/
section
variable {X : Cx} {k j : Nat} {C : Addr} {m x : Str} {ps ks : List Str} {dvs : List V} {sp : Sp} {o e : Expr} {es : List Expr} {ta : TE} {t tk : TA} {apos p pos : Pos} {gV : List V → List V → List V} {kws : List Keyword} {E : XK}
def CalCX (P : Program) (w : World) (K : PySem.W.Frag) (mg : Str → Option Value) (base : Heap) (k : Nat) (x : Str) (C : Addr) (ps : List Str) (dvs : List V) (sp : Sp) : Prop :=
  ∃ (f : Addr) (fd : FuncData) (ds : List Value), Mk K C f ∧ mg x = some (.ref C) ∧ Vals dvs ds ∧ Binds K fd ps ds ∧ FnOk P w K mg base (L2.CX P w) k f fd ps sp
def CalCXK (P : Program) (w : World) (K : PySem.W.Frag) (mg : Str → Option Value) (base : Heap) (k : Nat) (x : Str) (C : Addr) (ps : List Str) (n : Nat) (ks : List Str) (gV : List V → List V → List V) (sp : Sp) : Prop :=
  ∃ (f : Addr) (fd : FuncData) (g : List Value → List Value → List Value), Mk K C f ∧ mg x = some (.ref C) ∧ KBn K fd ps (n + 1) ks g gV ∧ FnOk P w K mg base (L2.CX P w) k f fd ps sp
theorem pe_calcX (h : CalCX X.prog X.w X.K X.mg X.base k x C ps dvs sp) (hr : Room j X.A) (tk : Takes X (fun cls d _ H => E cls d H)) (ha : PA X (e :: es) t) (hle : k + 1 ≤ j := by decide) (hg : Gl X x := by rfl)
    (hdb : (x == ("__debug__" : Str)) = false := by decide) (he : starEach (e :: es) X.env = (false, eval e X.env) :: starEach es X.env := by rfl) (hpl : (backTo pos (starEach es X.env)).any (·.1) = false := by rfl) :
    PE X (.Call (.Name x p) (e :: es) [] pos) (tMake C sp dvs E t) := by
  obtain ⟨f, fd, ds, h1, h2, h3, h4, h5⟩ := h
  exact pe_make h1 h5 (hr.mono hle) hg h2 h4 h3 (passes_call tk (fun _ _ _ _ h => h)) ha hdb he hpl
theorem pe_calcX0 (h : CalCXK X.prog X.w X.K X.mg X.base k x C ps 0 ks gV sp) (hr : Room j X.A) (tk' : Takes X (fun cls d _ H => E cls d H)) (hkw : PK X kws tk) (hle : k + 1 ≤ j := by decide) (hg : Gl X x := by rfl)
    (hall : (backToKw pos (keywordEach kws X.env)).all (·.1.isSome) = true := by rfl) (hks : (backToKw pos (keywordEach kws X.env)).filterMap (·.1) = ks := by rfl)
    (hdb : (x == ("__debug__" : Str)) = false := by decide)
    (hpl : ((backTo pos (starEach [] X.env)).any (·.1) || (backToKw pos (keywordEach kws X.env)).any (·.1.isNone)) = false := by rfl) :
    PE X (.Call (.Name x p) [] kws pos) (tMakeN C 0 ks.length sp gV E tNil tk) := by
  obtain ⟨f, fd, g, h1, h2, h3, h4⟩ := h
  refine ⟨fun pins s σ H Q I h => ?_⟩
  refine wpAny_Call_Name_kw (ld_glob I hg h2 ?_ hdb)
  refine PySem.W.callWith_KW0 (h₀ := X.base) I.ok.mod.kin h1.kp hall (thn (hkw.run pos pins s σ H _ I h) fun ws s2 ⟨zs, H2, I2, rz, l1, l2, q2⟩ => ⟨I2.kIn, ?_⟩) hpl
  rw [hks]
  exact run_makeN (vs := []) (us := []) h1 h4 (hr.mono hle) h3 (passes_call tk' (fun _ _ _ _ h => h)) I2 .nil rz l1 l2 q2
/-- the error passes on out of the lambda -/
theorem takesLam {X : Cx} {A : Around} {outer : List Env} {s : Shared} {H : Hp} {E : XK} {scope : Scope} {f c' : Addr} : Takes (LamX.lamCx X A outer s H E scope f c') (fun cls d _ H => E cls d H) := takes_of rfl rfl rfl rfl
end
/-! ### a lambda called by the def that got it, with that def's own slots in what it wants of errors -/
section
variable {X : Cx}
abbrev lamQ (X : Cx) : Str := X.env.qual ++ "<lambda>"
abbrev lamOb (X : Cx) (pr : Arguments) (bd : Expr) (sc : Scope) (nm : Value) (cd : Addr) (ctx : Value) : Obj := PySem.W.kla_obj "<lambda>" (lamQ X) pr bd sc (cloFrom X.env.cells sc.names []) nm cd ctx
/-- the context of the def at g, called from X at state s -/
abbrev gotCx (X : Cx) (Ng : List Str) (qg : Str) (sg : Scope) (g : Addr) (cdg : Value) (s : Shared) (H : Hp) : Cx := cxOf C8.CX0 X.prog X.w X.K X.mg X.base Ng qg sg g cdg X.A X.stack s H C8.E0
theorem pe_actS {pins : List (Addr × Obj)} {σ : L2.St} {H : Hp} {s : Shared} {Ng : List Str} {qg : Str} {sg : Scope} {g fl cd : Addr} {cdg nm ctx : Value} {pr : Arguments} {bd : Expr} {sc : Scope} {k i : Nat} {a : Str} {pn : List (Addr × Obj)} {xe : Value → Shared → Prop} {W : WX} {t : XK → TE} {p1 p2 : Pos}
    (I : Inv X pins σ H s) (L : LamX.LamS X.env.scope sc) (ho : s.heap.get? fl = some (lamOb X pr bd sc nm cd ctx)) (hn : H fl = none) (hs : fl ∉ frs X.stack)
    (hb : bindArgs (PySem.W.kla_fn "<lambda>" (lamQ X) pr bd sc (cloFrom X.env.cells sc.names []) nm (.ref cd) ctx) ⟨[], []⟩ = pure [])
    (tk : Takes ((gotCx X Ng qg sg g cdg s H).tr pn xe) W) (rm : Room (k + 1) (X.A.deeper (envOfC qg sg s.heap.objs.size g cdg)))
    (hbd : ∀ (E : XK) (A : Around) (out : List Env) (s : Shared) (H : Hp), Room k (A.deeper (LamX.lamEnv X sc s.heap.objs.size fl cd)) → PE (LamX.lamCx X A out s H E sc fl cd) bd (t E))
    (hN : Ng[i]? = some a) (hv : Vis sg a) (h1 : (a == ("__debug__" : Str)) = false := by decide) (h2 : (a == ("__classdict__" : Str)) = false := by decide) :
    PE ((gotCx X Ng qg sg g cdg s H).tr pn xe) (.Call (.Name a p1) [] [] p2)
      (fun τ G Q => τ[i]? = some (some (.ref fl)) ∧ G cd = some (LamX.CodeO cd (lamQ X)) ∧ t (WE W τ) σ G Q) := by
  constructor
  intro pz sz τ G Q J ⟨hτ, hG, ht⟩
  have nameRun := (pe_var (X := (gotCx X Ng qg sg g cdg s H).tr pn xe) (pos := p1) (i := i) hN hv h1 h2).run pz sz τ G (fun v G' => v = .ref fl ∧ G' = G) J ⟨.ref fl, hτ, rfl, rfl⟩
  refine wpAny_Call_Name_kw (thn nameRun fun u s1 ⟨v, G', J1, rv, ev, eG⟩ => ?_)
  subst ev eG
  obtain rfl : u = Value.ref fl := rv
  have obj1 := J1.base.keep fl _ ho hn hs (fun z => absurd z (by simp [gotCx, cxOf, Cx.tr]))
  refine PySem.W.callWith_F0 ⟨_, _, _, _, obj1⟩ ?_
  have old : Un (frs X.stack) [] H G' s.heap s1.heap := J1.base
  obtain ⟨⟨oc, vs, tk9, hoc, hdc, hvc⟩, _, _⟩ := J1.hok cd _ hG
  have through : codeAny (model X.prog X.w) (X.A.deeper (envOfC qg sg s.heap.objs.size g cdg)) (.call (.ref fl) ⟨[], []⟩)
      (CR (L2.CX X.prog X.w) (envOfC qg sg s.heap.objs.size g cdg :: X.stack) X.prog X.w G' s1 Q (WE W τ)) s1 := by
    refine PySem.W.kla_callFunE rm.depth obj1 rfl L.co L.gen rfl ⟨cd, oc, vs, tk9, rfl, hoc, hdc, hvc⟩ ?_
    rw [hb]
    refine wpAny_pure (wpAny_newFunctionEnv (fun y m => (L.own y m).2) (fun y m => absurd m (by simp)) (fun hp ns sb => ⟨J1.nolimit.fresh _ sb, ?_⟩) L.kind)
    show codeAny _ _ (.expr bd (LamX.lamEnv X sc s1.heap.objs.size fl cd)) _ _
    have still : ∀ b o, s1.heap.get? b = some o → hp.get? b = some o := fun b o e => sb.extBut b o (Nat.ne_of_lt (Heap.lt_size e)) (Heap.get?_push_of_some _ e)
    have J2 := LamX.lam_start2 (E := WE W τ) (f := fl) (c' := cd) (tk := s1.toks + ([] : List (Str × Value)).length) I L J1.env0 rm.hd old ns still
    refine PySem.W.kla_codeExpr (wpAny_mono ((hbd (WE W τ) _ _ s1 G' (rm.deeper _)).run [] _ _ G' Q J2 ht) (fun v s' ⟨v', G2, J3, rv, qv⟩ => ⟨v', G2, J3.os, J3.bare, J3.base, J3.hok, rv, qv⟩) fun e s' hq => hq)
  have pass := passAt tk τ
  refine wpAny_call (codeAny_mono through fun r s' hq => ?_)
  match r, hq with
  | .error e, hq => exact pass pz G' s1 e s' J1 hq
  | .ok (.ret u), hq => exact J1.after hq
  | .ok .next, hq => exact hq.elim
  | .ok .brk, hq => exact hq.elim
  | .ok .cont, hq => exact hq.elim
/-- the def that calls what it got; TT: what it makes of the lambda's reading -/
def GivesS (X : Cx) (Ng : List Str) (x : Str) (sg : Scope) (g : Addr) (cdg : Value) (bg : List Stmt) (a : Str) (TT : (XK → Hp → VK → Prop) → Hp → VK → Prop) : Prop :=
  ∀ (fl cd : Addr) (s : Shared) (H : Hp) (Q : VK) (tl : XK → Hp → VK → Prop),
    (∀ (W : WX) (pn : List (Addr × Obj)) (xe : Value → Shared → Prop) (p1 p2 : Pos), Takes ((gotCx X Ng x sg g cdg s H).tr pn xe) W →
      PE ((gotCx X Ng x sg g cdg s H).tr pn xe) (.Call (.Name a p1) [] [] p2) (fun τ G Q => τ[0]? = some (some (.ref fl)) ∧ G cd = some (LamX.CodeO cd (lamQ X)) ∧ tl (WE W τ) G Q)) →
    H cd = some (LamX.CodeO cd (lamQ X)) → TT tl H Q →
    ∃ t, PSs (gotCx X Ng x sg g cdg s H).nox bg t ∧ t { nx := fun _ H' => Q .non H', rt := Q } (L2.start Ng [.ref fl]) H
/-- a def of the text that is handed a lambda -/
structure GotFn (K : PySem.W.Frag) (mg : Str → Option Value) (x a : Str) (st : Stmt) (Ng : List Str) (g : Addr) (cdg : Value) : Prop where
  gm : mg x = some (.ref g)
  kp : PySem.W.keepIn K (.ref g) = true
  fn : ∃ (oc : Value) (od : Option Addr) (dV kV doc pm ct : Value) (an : Option Addr) (osl : Array (Option Value)),
    K.lookup g = some ⟨oc, od, .func (PySem.W.fnOf x x (defArgs st) (defBody st) (defScope st) dV kV doc pm an cdg ct), osl⟩ ∧ L2.Binds K (PySem.W.fnOf x x (defArgs st) (defBody st) (defScope st) dV kV doc pm an cdg ct) [a] []
  cd : PySem.W.codeIn K cdg x = true
  sc : FnScope Ng [a] (defScope st)
  n0 : Ng[0]? = some a
  vs : Vis (defScope st) a
theorem pe_lamS {T : List (Addr × Str)} {TT : (XK → Hp → VK → Prop) → Hp → VK → Prop} {x a : Str} {g c P : Addr} {k j : Nat} {st : Stmt} {cdg : Value} {Ng : List Str} {pr : Arguments} {bd : Expr} {sc : Scope} {t : XK → TE} {p lp pos : Pos}
    (G : GotFn X.K X.mg x a st Ng g cdg) (hG : GivesS X Ng x (defScope st) g cdg (defBody st) a TT) (TB : LamX.TabB X.base X.mg c P) (rm : Room j X.A)
    (hbd : ∀ (E : XK) (A : Around) (out : List Env) (s : Shared) (H : Hp) (fl cd : Addr), Room k (A.deeper (LamX.lamEnv X sc s.heap.objs.size fl cd)) → PE (LamX.lamCx X A out s H E sc fl cd) bd (t E))
    (hc : X.env.code = .ref c := by rfl) (hm : (P, lamQ X) ∈ T := by exact List.mem_cons_self) (hu : ∀ p ∈ T, p.1 = P → p.2 = lamQ X := by (intro p hp _; cases List.mem_singleton.mp hp; rfl)) (L : LamX.LamS X.env.scope sc := by exact LamX.lamS_by (by decide +kernel)) (hd : defaultsOf pr X.env = ([], []) := by rfl)
    (hb : ∀ (q : Str) (cl : List (Str × Addr)) (nm cv ctx : Value), bindArgs (PySem.W.kla_fn "<lambda>" q pr bd sc cl nm cv ctx) ⟨[], []⟩ = pure [] := by intros; rfl)
    (hle : k + 2 ≤ j := by decide) (hg : Gl X x := by rfl) (h0 : (x == ("__debug__" : Str)) = false := by decide) (h1 : (a == ("__debug__" : Str)) = false := by decide) (h2 : (a == ("__classdict__" : Str)) = false := by decide) :
    PE X (.Call (.Name x p) [.Lambda pr bd sc lp] [] pos) (LamX.tLam T TT t) := by
  constructor
  intro pins s σ H Q I ⟨hT, h⟩
  obtain ⟨oc, od, dV, kV, doc, pm, ct, an, osl, lk, bnd⟩ := G.fn
  refine wpAny_Call_Name_kw (ld_glob I hg G.gm ?_ h0)
  refine PySem.W.callWith_K (h₀ := X.base) I.ok.mod.kin G.kp ?_ (by rfl) (by rfl)
  show wpAny _ _ (spliced ((false, eval (.Lambda pr bd sc lp) X.env) :: backTo pos (starEach [] X.env))) _ _ s
  refine Calls.spliced_cons (LamX.lam_make2 I TB hc hm hu hT hd (L.has I.ok) fun fl cd nm ctx H1 s1 I1 en T1 ho hn hs hco => Calls.spliced_nil ⟨I1.kIn, ?_⟩)
  have through : codeAny (model X.prog X.w) X.A (.call (.ref g) ⟨[.ref fl], []⟩) (CR C8.CX0 X.stack X.prog X.w H1 s1 Q C8.E0) s1 := by
    refine LamX.run_ofS (k := k + 1) (us := [.ref fl]) (vs := [.ref fl]) lk G.cd G.sc (rm.mono hle) I1.env0 (bnd s1 [.ref fl] I1.kIn rfl) (.cons rfl .nil) rfl fun rm' => ?_
    obtain ⟨t', ps', q'⟩ := hG fl cd s1 H1 Q (fun E G' Q' => t E σ G' Q') (fun W pn xe p1 p2 tk => pe_actS (i := 0) I1 L ho hn hs (hb _ _ _ _ _) tk rm' (fun E A out s H r => hbd E A out s H fl cd r) G.n0 G.vs h1 h2) hco (h H1 en T1)
    exact ⟨t', ps'.nox, q'⟩
  refine wpAny_call (codeAny_mono through fun r s2 hq => ?_)
  match r, hq with
  | .error e, hq => exact (show False from hq).elim
  | .ok (.ret u), hq => exact I1.after hq
  | .ok .next, hq => exact hq.elim
  | .ok .brk, hq => exact hq.elim
  | .ok .cont, hq => exact hq.elim
end

/-- a def of the text with its code object -/
structure FunC (K : PySem.W.Frag) (x : Str) (st : Stmt) (f : Addr) (fd : FuncData) (c : Addr) : Prop where
  ex : ∃ (oc : Value) (od : Option Addr) (kV doc pm : Value) (an : Option Addr) (ct : Value) (osl : Array (Option Value)),
    fd = PySem.W.fnOf x x (defArgs st) (defBody st) (defScope st) .none kV doc pm an (.ref c) ct ∧ K.lookup f = some ⟨oc, od, .func fd, osl⟩ ∧ PySem.W.codeIn K (.ref c) x = true
theorem FunC.ok {P : Program} {w : World} {K : PySem.W.Frag} {mg : Str → Option Value} {base : Heap} {x : Str} {st : Stmt} {f c : Addr} {fd : FuncData} {N ps : List Str} {k : Nat} {sp : Sp} (F : FunC K x st f fd c) (S : FnScope N ps (defScope st)) (len : ∀ vs H Q E, sp vs H Q E → vs.length = ps.length)
    (hb : ∀ (A : Around) (out : List Env) (s : Shared) (H : Hp) (vs : List V) (Q : VK) (E : XK), Room k (A.deeper (envOfC x (defScope st) s.heap.objs.size f (.ref c))) → sp vs H Q E →
      ∃ t, PSs (cxOf CX0 P w K mg base N x (defScope st) f (.ref c) A out s H E).nox (defBody st) t ∧ t { nx := fun _ H' => Q .non H', rt := Q } (start N vs) H) : FnOk P w K mg base CX0 (k + 1) f fd ps sp := by
  obtain ⟨oc, od, kV, doc, pm, an, ct, osl, rfl, lk, hcd⟩ := F.ex
  exact fn_of lk hcd S len fun A out s H vs Q E hr hsp => let ⟨t, h, q⟩ := hb A out s H vs Q E hr hsp; ⟨t, h.nox, q⟩
theorem got_of {K : PySem.W.Frag} {mg : Str → Option Value} {x a : Str} {st : Stmt} {Ng : List Str} {g : Addr} {fd : FuncData} (F : Fun K x x st g fd) (gm : mg x = some (.ref g)) (b : Binds K fd [a] []) (sc : FnScope Ng [a] (defScope st)) (n0 : Ng[0]? = some a) (vs : Vis (defScope st) a) : ∃ cdg, GotFn K mg x a st Ng g cdg := by
  obtain ⟨oc, od, kV, doc, pm, an, cdv, ct, osl, rfl, lk, hcd⟩ := F.ex
  exact ⟨cdv, gm, F.kp, ⟨_, _, _, _, _, _, _, _, _, lk, b⟩, hcd, sc, n0, vs⟩

/-- what is told, or refused with NoText -/
def TTtold (CT : Addr) : (XK → Hp → VK → Prop) → Hp → VK → Prop := fun tl H Q => ∀ (E : XK) (Q' : VK),
  (∀ (d : Addr) (H' : Hp), H' d = some (.xd [("line", .int 0)]) → (∀ H'', Same H' H'' → Q (.str "refused") H'') → E (.ref CT) (some d) H') →
  (∀ (v : V) (H1 : Hp), (∀ p, H1 p = none → Q (.ref p) (upd H1 p (.tup [.str "told", v]))) → Q' v H1) → tl E H Q'
structure Errs (K : PySem.W.Frag) (mg : Str → Option Value) (CE CT CN CB CU : Addr) : Prop where
  gE : mg "EchoError" = some (.ref CE)
  gT : mg "NoText" = some (.ref CT)
  gN : mg "NoFraction" = some (.ref CN)
  gB : mg "BadForm" = some (.ref CB)
  gU : mg "Unfit" = some (.ref CU)
  XT : ExcC K CT
  noL : PySem.W.findIn K (.ref CT) "line" = some none
  exT : PySem.W.exmOne K (.ref CT) (.ref CE) = some true
  kTT : PySem.W.kitOne K (.ref CT) (.ref CT) = some true
  kTN : PySem.W.kitOne K (.ref CT) (.ref CN) = some false
  kTB : PySem.W.kitOne K (.ref CT) (.ref CB) = some false
  kTU : PySem.W.kitOne K (.ref CT) (.ref CU) = some false

end E1

namespace E1
open PySem PySem.Spec PyProof.Rows L2
theorem sc__law_told : FnScope ["_law_deed", "_law_found", "e", "_law_marks"] ["_law_deed"] (defScope s__law_told) := ⟨rfl, rfl, rfl, by decide +kernel, rfl, by decide +kernel, by decide +kernel⟩
theorem told_gives {X : Cx} {CE CT CN CB CU : Addr} (XX : Errs X.K X.mg CE CT CN CB CU) (ECT : PySem.ErrX.ErrC X.K X.mg "NoText" CT) (zi : X.mg "isinstance" = none) {k : Nat} (hr0 : Room (k + 1) X.A) {g : Addr} {cdg : Value} :
    GivesS X ["_law_deed", "_law_found", "e", "_law_marks"] "_law_told" (defScope s__law_told) g cdg (defBody s__law_told) "_law_deed" (TTtold CT) := by
  intro fl cd s H Q tl act hc h
  have hr : ∀ env, Room k (X.A.deeper env) := fun env => hr0.deeper env
  refine ⟨_, pss_cons (ps_set (i := 1) sc__law_told.nd rfl (.inl rfl) pe_str)
    (pss_cons (ps_try_as (X := (gotCx X ["_law_deed", "_law_found", "e", "_law_marks"] "_law_told" (defScope s__law_told) g cdg s H).nox) (i := 2) (c := .ref CE) (tb := fun W => tAsg (tTup (tCons (tC (.str "told")) (tCons (fun τ G Q => τ[0]? = some (some (.ref fl)) ∧ G cd = some (LamX.CodeO cd (lamQ X)) ∧ tl (WE W τ) G Q) tNil))) (gName 1)) (ts := fun a cls d => tSeq (tAsg (tLst (tCons (tCB (rIsX X.K a cls d) (tCons (tVar 2) (tCons (tC (.ref CT)) tNil))) (tCons (tCB (rIsX X.K a cls d) (tCons (tVar 2) (tCons (tC (.ref CN)) tNil))) (tCons (tCB (rIsX X.K a cls d) (tCons (tVar 2) (tCons (tC (.ref CB)) tNil))) (tCons (tCB (rIsX X.K a cls d) (tCons (tVar 2) (tCons (tC (.ref CU)) tNil))) tNil))))) (gName 3)) (tIfS (tAnd (tTest (tOp (rEqD X.K) (tVar 3) (tLst (tCons (tC (.bl true)) (tCons (tC (.bl false)) (tCons (tC (.bl false)) (tCons (tC (.bl false)) tNil))))))) (tTest (tOp rEq (tXf a cls d CT "line" (tVar 2)) (tC (.int 0))))) (tAsg (tC (.str "refused")) (gName 1)) tNext)) rfl rfl sc__law_told.nd rfl rfl ⟨rfl, by decide, .inl XX.gE⟩ takes0 (fun W pn xe tk _ => pss_one (ps_set (i := 1) sc__law_told.nd rfl (.inl rfl) (pe_tup (pa_cons pe_str (pa_cons (act W pn xe _ _ tk) pa_nil)))))
      (fun a oe cls d pn hz hf => (pss_cons (ps_set (i := 3) sc__law_told.nd rfl (.inl rfl) (pe_lst (pa_cons (pe_callB (call_isX hz hf) (by rfl) zi (by decide +kernel) (pa_cons (pv 2) (pa_cons (pe_glob (v := .ref CT) (by rfl) XX.gT rfl) pa_nil))) (pa_cons (pe_callB (call_isX hz hf) (by rfl) zi (by decide +kernel) (pa_cons (pv 2) (pa_cons (pe_glob (v := .ref CN) (by rfl) XX.gN rfl) pa_nil))) (pa_cons (pe_callB (call_isX hz hf) (by rfl) zi (by decide +kernel) (pa_cons (pv 2) (pa_cons (pe_glob (v := .ref CB) (by rfl) XX.gB rfl) pa_nil))) (pa_cons (pe_callB (call_isX hz hf) (by rfl) zi (by decide +kernel) (pa_cons (pv 2) (pa_cons (pe_glob (v := .ref CU) (by rfl) XX.gU rfl) pa_nil))) pa_nil))))))
      (pss_one (ps_if (PW.pt (pw_and (pt_cmpR (op_eqD (by exact (hr (envOfC "_law_told" (defScope s__law_told) s.heap.objs.size g cdg)).units)) (pv 3) (pe_lst (pa_cons pe_bl (pa_cons pe_bl (pa_cons pe_bl (pa_cons pe_bl pa_nil))))) (nomark _)) (pw_and1 (pt_cmpR op_eq (by exact (pe_xf (E1.ErrC.xf ECT) XX.noL hz hf (pv 2))) pe_int (nomark _))))) (pss_one (ps_set (i := 1) sc__law_told.nd rfl (.inl rfl) pe_str)) pss_nil)))))
      (pss_one (ps_ret (pv 1)))), ?_⟩
  refine ⟨rfl, hc, ?_⟩
  refine h _ _ (fun d H1 hd q => ?_) (fun v H1 q => ?_)
  ·
    refine ⟨true, XX.exT, fun _ a ha => ?_, fun z => nomatch z⟩
    refine ⟨_, rfl, CT, _, _, true, rfl, XX.XT, rfl, (fun u h => h), (fun dd e => by cases e; exact ⟨_, hd⟩), XX.kTT, _, rfl, CT, _, _, false, rfl, XX.XT, rfl, (fun u h => h), (fun dd e => by cases e; exact ⟨_, hd⟩), XX.kTN, _, rfl, CT, _, _, false, rfl, XX.XT, rfl, (fun u h => h), (fun dd e => by cases e; exact ⟨_, hd⟩), XX.kTB, _, rfl, CT, _, _, false, rfl, XX.XT, rfl, (fun u h => h), (fun dd e => by cases e; exact ⟨_, hd⟩), XX.kTU, (by show 4 ≤ sizeLine; decide), fun l2 hl2 => ?_⟩
    have s2 := same_new (o := .lst [.bl true, .bl false, .bl false, .bl false]) hl2
    refine ⟨_, rfl, (by show 4 ≤ sizeLine; decide), fun l3 hl3 => ?_⟩
    have s3 := same_new (o := .lst [.bl true, .bl false, .bl false, .bl false]) hl3
    refine ⟨.list [.bool true, .bool false, .bool false, .bool false], .list [.bool true, .bool false, .bool false, .bool false], .lst (SqL.of (s3 _ _ upd_same)) (.cons (.bl _) (.cons (.bl _) (.cons (.bl _) (.cons (.bl _) .nil)))), .lst (SqL.of upd_same) (.cons (.bl _) (.cons (.bl _) (.cons (.bl _) (.cons (.bl _) .nil)))), (by decide +kernel), (by decide +kernel), _, rfl, ?_⟩
    refine iteC (c := PyData.eqv (.list [.bool true, .bool false, .bool false, .bool false]) (.list [.bool true, .bool false, .bool false, .bool false])) (d := true) (by decide +kernel) (iteT ?_)
    refine ⟨_, rfl, rfl, rfl, d, _, _, rfl, s3 _ _ (s2 _ _ hd), rfl, rfl, _, rfl, iteT ?_⟩
    exact ⟨_, rfl, q _ (s2.trans s3)⟩
  · exact ⟨(by show 2 ≤ sizeLine; decide), fun p hp => ⟨_, rfl, q p hp⟩⟩
end E1

namespace E1
open PySem PySem.Spec PyProof.Rows L2
abbrev lawQ : Str := (envOfC "law" (defScope s_law) 0 0 .none).qual ++ "<lambda>"
def spLaw (K : PySem.W.Frag) (Pt : Addr) : Sp := fun vs H Q _ => ∃ (a : Addr) (ns : List Int), vs = [.ref a] ∧ SqL K H a (ns.map V.int) ∧ ns.length ≤ 63 ∧ H Pt = some (.tbl #[]) ∧ ∀ H', Q (.bl true) H'
theorem ext_well {H H' : Hp} {a : Addr} {c : Int} (x : LamX.ExtN H H') (h : WellAt H a c) : WellAt H' a c := by
  obtain ⟨i, j, k, e, h1, h2, h3, h4⟩ := h
  exact ⟨i, j, k, x _ _ e (fun _ z => by cases z), h1, h2, h3, h4⟩
theorem tabs_but {T : List (Addr × Str)} {H H' : Hp} {a : Addr} {c : Int} (t : LamX.Tabs T H) (s : SameBut a H H') (w : WellAt H a c) : LamX.Tabs T H' := fun p hp => by
  obtain ⟨ps, h1, h2, h3⟩ := t p hp
  obtain ⟨i, j, k, e, _⟩ := w
  refine ⟨ps, s _ _ (fun z => by rw [z, e] at h1; cases h1) h1, h2, fun pos cv hc => ?_⟩
  obtain ⟨c0, e1, e2⟩ := h3 pos cv hc
  refine ⟨c0, e1, s _ _ (fun z => ?_) e2⟩
  rw [z, e] at e2
  have e3 := Option.some.inj e2
  unfold LamX.CodeO at e3
  cases e3
theorem op_mul_str {X : Cx} : OpR X (binaryOp .Mult) (fun x y H Q => ∃ (z : Str) (n : Int), x = .str z ∧ y = .int n ∧ MulOk z n ∧ Q (.str (Txt.mul z n)) H) := by
  intro pins s σ H x y v u Q I rx ry h
  obtain ⟨z, n, rfl, rfl, ok, q⟩ := h
  obtain ⟨t, rfl⟩ := rx
  obtain ⟨t', rfl⟩ := ry
  exact SB.mul ok fun t' k => ⟨.str (Txt.mul z n), H, I.tok k, ⟨_, rfl⟩, q⟩

theorem same_but {H H1 H2 : Hp} {p : Addr} (s : Same H H1) (b : SameBut p H1 H2) (hp : H p = none) : Same H H2 := fun a o e => b a o (ne_of_none e hp) (s a o e)
structure Fr (t u : Int) : Prop where
  u0 : 0 < u
  g1 : gI t u = 1
  ts : t.natAbs < 10 ^ 400
  us : u.natAbs < 10 ^ 400
theorem abs_le_mul {x g y : Int} (e : x * g = y) (h : 0 < g) : x.natAbs ≤ y.natAbs := by
  rw [← e, Int.natAbs_mul]
  exact Nat.le_mul_of_pos_right _ (by omega)
theorem fr_low {t b : Int} (hb : 0 < b) (ht : t.natAbs < 10 ^ 400) (hs : b.natAbs < 10 ^ 400) : Fr (lowT t b) (lowB t b) := by
  obtain ⟨e1, e2⟩ := low_mul (t := t) hb
  have g0 := gI_pos (t := t) (b := b) (by omega)
  have b0 : 0 < lowB t b := by
    refine Int.lt_of_mul_lt_mul_right (a := gI t b) ?_ (by omega)
    rw [Int.zero_mul, e2]
    exact hb
  exact ⟨b0, low_gcd (by omega), Nat.lt_of_le_of_lt (abs_le_mul e1 g0) ht, Nat.lt_of_le_of_lt (abs_le_mul e2 g0) hs⟩
theorem gI_one (t : Int) : gI t 1 = 1 := by
  unfold gI
  rw [Int.gcd_one]
  rfl
theorem Fr.one {t u : Int} (h : Fr t u) : Fr t 1 := ⟨by decide, gI_one t, h.ts, by decide +kernel⟩
theorem itx_free {n : Int} (h : n.natAbs < 10 ^ 400) : 47 ∉ itx n := numb_free (itx_numb h)
theorem readF_frac {t u : Int} (h : Fr t u) : readF (fracT t u) = some (t, u) := by
  obtain ⟨f1, v1⟩ := itx_figd h.ts
  obtain ⟨f2, v2⟩ := itx_figd h.us
  unfold fracT
  by_cases c : u = 1
  · rw [if_pos c, readF_no (itx_free h.ts), if_pos (itx_numb h.ts), v1, c]
  · have u0 := h.u0
    have fg : figs (itx u) = true := numb_pos (itx_numb h.us) (by rw [v2]; omega)
    obtain ⟨_, _, n0, n1⟩ := figs_val fg
    rw [if_neg c, readF_at (itx_free h.ts), if_pos ⟨itx_numb h.ts, fg, fun z => by have := n0.mp z; omega, fun z => by have := n1.mp z; omega, by rw [v1, v2]; exact h.g1⟩, v1, v2]
theorem fracT_len {t u : Int} (h : Fr t u) : (fracT t u).length ≤ 1000 := by
  have := itx_len h.ts
  have := itx_len h.us
  unfold fracT
  split
  · omega
  · rw [List.length_append, List.length_cons]
    omega
theorem join_len : ∀ (ns : List Int), (∀ n ∈ ns, n.natAbs < 10 ^ 400) → (TL.joinL [32] (ns.map itx)).length ≤ 402 * ns.length
  | [], _ => Nat.zero_le _
  | [n], h => by
    have := itx_len (h n (List.mem_cons_self ..))
    show (itx n).length ≤ _
    simp only [List.length_singleton]
    omega
  | n :: m :: r, h => by
    have := itx_len (h n (List.mem_cons_self ..))
    have ih := join_len (m :: r) (fun k hk => h k (List.mem_cons_of_mem _ hk))
    show (itx n ++ ([32] ++ TL.joinL [32] ((m :: r).map itx))).length ≤ _
    simp only [List.length_append, List.length_cons, List.length_nil] at ih ⊢
    omega
theorem readW_way {ns : List Int} (h : ∀ n ∈ ns, n.natAbs < 10 ^ 400) : readW (wayT ns) = some ns := by
  unfold readW wayT
  match ns, h with
  | [], _ => rfl
  | n :: r, h =>
    have hp : ∀ p ∈ (n :: r).map itx, 32 ∉ p := fun p hp => by
      obtain ⟨m, hm, rfl⟩ := List.mem_map.mp hp
      obtain ⟨_, _, d⟩ := (itx_figd (h m hm)).1
      intro z
      unfold bare at d
      split at d
      · unfold itx at z d
        split at z
        · rcases List.mem_cons.mp z with z | z
          · cases z
          · have := TL.numL_digits _ _ z
            omega
        · have := TL.numL_digits _ _ z
          omega
      · have := d 32 z
        omega
    have e := SX.spl_join (c := 32) (sep := []) (parts := (n :: r).map itx) (List.cons_ne_nil _ _) hp
    rw [if_neg, e]
    · unfold wholesL
      rw [if_pos, List.map_map]
      · congr 1
        refine Eq.trans (List.map_congr_left (g := id) fun m hm => (itx_figd (h m hm)).2) (List.map_id _)
      · rw [List.all_map, List.all_eq_true]
        exact fun m hm => itx_numb (h m hm)
    · intro z
      rw [z, TL.spl_nil] at e
      have e2 := (List.cons.inj e).1
      exact absurd e2.symm (fun w => by
        have := (itx_figd (h n (List.mem_cons_self ..))).1.1
        unfold bare at this
        rw [w] at this
        exact absurd this (by decide))
def TxtOk (x : V) : Prop := ∃ l : List Nat, x = sV l ∧ l.length ≤ 90000
theorem TxtOk.lit (z : Str) (h : z.length ≤ 90000) : TxtOk (.str z) := ⟨z.cps.toList, by rw [sV, SX.S_tl], by rw [← TL.len_tl]; exact h⟩
theorem okN : ∀ y ∈ ([] : List V), TxtOk y := fun y h => nomatch h
theorem okC {x : V} {xs : List V} (h : TxtOk x) (t : ∀ y ∈ xs, TxtOk y) : ∀ y ∈ x :: xs, TxtOk y := fun y hy => by
  rcases List.mem_cons.mp hy with rfl | hy
  · exact h
  · exact t y hy
theorem okA {xs ys : List V} (h : ∀ y ∈ xs, TxtOk y) (t : ∀ y ∈ ys, TxtOk y) : ∀ y ∈ xs ++ ys, TxtOk y := fun y hy => by
  rcases List.mem_append.mp hy with hy | hy
  · exact h y hy
  · exact t y hy
theorem cut_ints (ns : List Int) (lo hi : Option Int) : ∃ cs : List Int, cutV (ns.map V.int) lo hi = cs.map V.int ∧ cs.length ≤ ns.length := by
  refine ⟨(ns.drop (HT.sIx (ns.map V.int).length 0 lo)).take (HT.sIx (ns.map V.int).length (ns.map V.int).length hi - HT.sIx (ns.map V.int).length 0 lo), ?_, ?_⟩
  · unfold cutV
    rw [List.map_take, List.map_drop]
  · rw [List.length_take, List.length_drop]
    omega
theorem readW_len {l : List Nat} {ns : List Int} (h : readW l = some ns) : ns.length ≤ l.length + 1 := by
  unfold readW wholesL at h
  split at h
  · cases h
    exact Nat.zero_le _
  · split at h
    · cases h
      rw [List.length_map]
      exact (spl_sizes 32 l []).1
    · cases h
theorem Al.frac {H : Hp} {n : Nat} {a c : Addr} {t u : Int} (h1 : H a = some (.tup [.int t, .int u])) (h2 : H c = some (.tup [.int t, .int u])) : Al H (n + 2) (.ref a) (.ref c) := by
  refine .inr ⟨a, c, _, _, rfl, rfl, rfl, by show 2 ≤ 95000; decide, fun i x y e1 e2 => ?_, .inl ⟨h1, h2⟩⟩
  have e := Option.some.inj (e1.symm.trans e2)
  subst e
  match i, e1 with
  | 0, e1 => cases e1; exact Al.int t
  | 1, e1 => cases e1; exact Al.int u
  | _ + 2, e1 => cases e1
theorem Al.told {H : Hp} {n : Nat} {a c : Addr} {x y : V} (h1 : H a = some (.tup [.str "told", x])) (h2 : H c = some (.tup [.str "told", y])) (h : Al H (n + 1) x y) : Al H (n + 2) (.ref a) (.ref c) := by
  refine .inr ⟨a, c, [.str "told", x], [.str "told", y], rfl, rfl, rfl, by show 2 ≤ 95000; decide, fun i u v e1 e2 => ?_, .inl ⟨h1, h2⟩⟩
  match i, e1, e2 with
  | 0, e1, e2 => cases e1; cases e2; exact .inl ⟨rfl, .str _⟩
  | 1, e1, e2 => cases e1; cases e2; exact h
  | _ + 2, e1, _ => cases e1
theorem way_len {ws : List Int} (h : ∀ n ∈ ws, n.natAbs < 10 ^ 400) (hl : ws.length ≤ 63) : (wayT ws).length ≤ 30000 := by
  have := join_len ws h
  show (TL.joinL [32] (ws.map itx)).length ≤ _
  omega
theorem sgn_small {r a : Int} (r0 : 0 ≤ r) (r1 : r < 2) (a0 : 0 ≤ a) (a1 : a < 10 ^ 400) : ((1 - 2 * r) * a).natAbs < 10 ^ 400 := by
  have e : ((1 - 2 * r) * a).natAbs = a.natAbs := by
    rw [Int.natAbs_mul]
    rcases (by omega : r = 0 ∨ r = 1) with rfl | rfl
    · exact Nat.one_mul _
    · exact Nat.one_mul _
  rw [e]
  have : (a.natAbs : Int) < ((10 ^ 400 : Nat) : Int) := by
    rw [Int.natAbs_of_nonneg a0]
    exact_mod_cast a1
  exact_mod_cast this
theorem mulD (a b : Nat) (ha : a = 49 ∨ a = 50 ∨ a = 57) (hb : b = 400 ∨ b = 401) : MulOk (SX.S [a]) (b : Int) ∧ TxtOk (.str (Txt.mul (SX.S [a]) (b : Int))) ∧ (Txt.mul (SX.S [a]) (b : Int)).length ≤ 500 := by
  have l1 : (SX.S [a]).length = 1 := SX.S_len _
  have key : (Txt.mul (SX.S [a]) (b : Int)).length ≤ 500 := by
    rcases ha with rfl | rfl | rfl <;> rcases hb with rfl | rfl <;> decide +kernel
  refine ⟨⟨?_, fun _ _ => ?_, fun _ _ => ?_⟩, .lit _ (by omega), key⟩
  · rcases hb with rfl | rfl <;> decide
  · rw [l1]
    rcases hb with rfl | rfl <;> decide
  · rw [l1]
    rcases hb with rfl | rfl <;> decide +kernel
theorem TxtOk.s {l : List Nat} (h : l.length ≤ 90000) : TxtOk (sV l) := ⟨l, rfl, h⟩
/-- after one is drawn -/
def MidA (H : Hp) (as : Addr) : L2.St → Hp → Prop := fun σ H' => ∃ (w1 po : Addr) (sg : V) (t u : Int), σ = [some (.ref as), some (.ref w1), some sg, some (.ref po), none, none, none, none, none, none, none] ∧ Same H H' ∧ H' po = some (.tup [.int t, .int u]) ∧ Fr t u
/-- after the words are drawn -/
def MidB (H : Hp) (as : Addr) : L2.St → Hp → Prop := fun σ H' => ∃ (po Lw : Addr) (sg : V) (v1 v5 : Option V) (t u : Int) (ws : List Int), σ = [some (.ref as), v1, some sg, some (.ref po), some (.ref Lw), v5, none, none, none, none, none] ∧ Same H H' ∧ H' po = some (.tup [.int t, .int u]) ∧ Fr t u ∧ H' Lw = some (.lst (ws.map V.int)) ∧ (∀ n ∈ ws, n.natAbs < 10 ^ 400) ∧ ws.length ≤ 63
def MidB1 (H : Hp) (as : Addr) : L2.St → Hp → Prop := fun σ H' => ∃ (po Lw : Addr) (sg : V) (v1 v5 : Option V) (t u : Int) (ws : List Int), σ = [some (.ref as), v1, some sg, some (.ref po), some (.ref Lw), v5, none, none, none, some (sV (fracT t u)), none] ∧ Same H H' ∧ H' po = some (.tup [.int t, .int u]) ∧ Fr t u ∧ H' Lw = some (.lst (ws.map V.int)) ∧ (∀ n ∈ ws, n.natAbs < 10 ^ 400) ∧ ws.length ≤ 63
theorem join_way (ws : List Int) : Txt.join (Str.ofString " ") (ws.map fun n => SX.S (itx n)) = SX.S (wayT ws) := by
  have e := SX.join_S [32] (ws.map itx)
  rw [List.map_map] at e
  exact e
/-- all is shown and read back -/
def MidC (H : Hp) (as : Addr) : L2.St → Hp → Prop := fun σ H' => ∃ (po Lw : Addr) (sg : V) (v1 v5 : Option V) (lt ll : List Nat), σ = [some (.ref as), v1, some sg, some (.ref po), some (.ref Lw), v5, none, none, some (sV ll), some (sV lt), none] ∧ Same H H' ∧ lt.length ≤ 1000 ∧ ll.length ≤ 30000
/-- the texts that are to be read are laid -/
def MidD (H : Hp) (as : Addr) : L2.St → Hp → Prop := fun σ H' => ∃ (po Lw wl Ls : Addr) (sg : V) (v5 : Option V) (lt ll : List Nat) (xs : List V), σ = [some (.ref as), some (.ref wl), some sg, some (.ref po), some (.ref Lw), v5, some (.ref Ls), none, some (sV ll), some (sV lt), none] ∧ Same H H' ∧ ll.length ≤ 30000 ∧ WellAt H' wl 9 ∧ H' Ls = some (.lst xs) ∧ (∀ y ∈ xs, TxtOk y) ∧ lt.length ≤ 1000 ∧ xs.length ≤ 6
def MidE (T : List (Addr × Str)) (as : Addr) : L2.St → Hp → Prop := fun σ H' => ∃ (po Lw wl Ls : Addr) (sg x9 : V) (v5 : Option V) (ll : List Nat), σ = [some (.ref as), some (.ref wl), some sg, some (.ref po), some (.ref Lw), v5, some (.ref Ls), none, some (sV ll), some x9, none] ∧ LamX.Tabs T H' ∧ ll.length ≤ 30000 ∧ WellAt H' wl 9
def MidF (T : List (Addr × Str)) (as : Addr) : L2.St → Hp → Prop := fun σ H' => ∃ (po Lw wl Ls : Addr) (sg x9 : V) (v5 v8 : Option V), σ = [some (.ref as), some (.ref wl), some sg, some (.ref po), some (.ref Lw), v5, some (.ref Ls), none, v8, some x9, none] ∧ LamX.Tabs T H' ∧ WellAt H' wl 18

end E1

namespace E1
open PySem PySem.Spec PyProof.Rows L2
section
variable {P : Program} {w : World} {K : PySem.W.Frag} {mg : Str → Option Value} {base : Heap}
theorem sc_law : FnScope ["_law_script", "_law_well_here", "_law_sign", "_law_one", "_law_words", "_law_cell", "_law_some", "_law_bad", "_law_line", "_law_line_text", "_law_word"] ["_law_script"] (defScope s_law) := ⟨rfl, rfl, rfl, by decide +kernel, rfl, by decide +kernel, by decide +kernel⟩
theorem ok_law {f : Addr} {fd : FuncData} {CE CT CN CB CU c Pt gT : Addr} {fdT : FuncData} (F : FunC K "law" s_law f fd c) (z : Zs mg) (XX : Errs K mg CE CT CN CB CU) (ECT : PySem.ErrX.ErrC K mg "NoText" CT) (TB : LamX.TabB base mg c Pt) (FT : Fun K "_law_told" "_law_told" s__law_told gT fdT) (gm : mg "_law_told" = some (.ref gT)) (bT : Binds K fdT ["_law_deed"] []) (c__law_cell_at : Cal P w K mg base 1 "_law_cell_at" ["_law_script", "_law_k"] (spCell K)) (c__law_well : Cal P w K mg base 1 "_law_well" ["_law_cell"] spWell) (c__law_draw : Cal P w K mg base 1 "_law_draw" ["_law_well_here", "_law_many"] spDraw) (c__law_low : Cal P w K mg base 1 "_law_low" ["_law_top", "_law_bottom"] spLowP) (c__law_great : Cal P w K mg base 2 "_law_great" ["_law_well_here"] spGreat) (c_show_fraction : Cal P w K mg base 1 "show_fraction" ["one"] (spShowF K)) (c_show_way : Cal P w K mg base 1 "show_way" ["words"] (spShowW K)) (c_show_wayT : Cal P w K mg base 1 "show_way" ["words"] (spShowWT K)) (c__law_same : Cal P w K mg base 4 "_law_same" ["_law_found", "_law_due_here"] (spSameN 3)) (c__law_spoilt : Cal P w K mg base 2 "_law_spoilt" ["_law_line_text", "_law_well_here"] spSpoil) (c__law_due : Cal P w K mg base 1 "_law_due" ["_law_thing"] spDue) (c__law_read_fraction : Cal P w K mg base 3 "_law_read_fraction" ["_law_line_text"] spRF) (c__law_read_way : Cal P w K mg base 3 "_law_read_way" ["_law_line_text"] spRW) (c_read_fraction : CalX P w K mg base 3 "read_fraction" ["text"] [] (spReadF K CT)) (c_read_way : CalX P w K mg base 3 "read_way" ["text"] [] (spReadW K CT)) (c_read_way_k : CalXK P w K mg base 3 "read_way" ["text"] 0 ["text"] (fun vs zs => vs ++ zs) (spReadW K CT)) : FnOk P w K mg base CX0 8 f fd ["_law_script"] (spLaw K Pt) := by
  obtain ⟨cdg, GT⟩ := got_of (Ng := ["_law_deed", "_law_found", "e", "_law_marks"]) FT gm bT sc__law_told rfl (.inl rfl)
  refine F.ok sc_law (fun vs H Q E h => ?_) (fun A outer s H vs Q E hr h => ?_)
  · obtain ⟨a, ns, rfl, _⟩ := h
    rfl
  · obtain ⟨as, ns, rfl, hS, hlen, hPt, q⟩ := h
    refine ⟨_, (pss_cons (ps_set (i := 1) sc_law.nd rfl (.inl rfl) (pe_cal c__law_well hr (pa_cons (pe_cal c__law_cell_at hr (pa_cons (pv 0) (pa_cons pe_int pa_nil))) pa_nil)))
      (pss_cons (ps_set (i := 2) sc_law.nd rfl (.inl rfl) (pe_op op_sub pe_int (pe_op op_mul pe_int (pe_cal c__law_draw hr (pa_cons (pv 1) (pa_cons pe_int pa_nil))))))
      (pss_cons (ps_set (i := 3) sc_law.nd rfl (.inl rfl) (pe_cal c__law_low hr (pa_cons (pe_op op_mul (pv 2) (pe_cal c__law_great hr (pa_cons (pv 1) pa_nil))) (pa_cons (pe_callB (call_max2 rfl) (by rfl) z.max (by decide +kernel) (pa_cons pe_int (pa_cons (pe_cal c__law_great hr (pa_cons (pv 1) pa_nil)) pa_nil))) pa_nil))))
      (C8.pss_cut (ps_if (pt_cmpR op_eq (pe_cal c__law_draw hr (pa_cons (pv 1) (pa_cons pe_int pa_nil))) pe_int (nomark _)) (pss_one (ps_set (i := 3) sc_law.nd rfl (.inl rfl) (pe_tup (pa_cons (pe_ix ix_tup (pv 3) pe_int (fun _ _ => rfl)) (pa_cons pe_int pa_nil))))) pss_nil)
      (pss_cons (ps_set (i := 4) sc_law.nd rfl (.inl rfl) (pe_lst pa_nil))
      (C8.pss_cut (ps_for PassesOwn.never rfl (pi_list (pe_slice sl_list (pv 0) (po_some pe_int) (po_some pe_int))) (pg_name (i := 5) sc_law.nd rfl (.inl rfl)) (pss_cons (ps_set (i := 1) sc_law.nd rfl (.inl rfl) (pe_cal c__law_well hr (pa_cons (pv 5) pa_nil)))
      (pss_one (ps_expr (pe_bm PySem.F.plainAttrs_list PySem.F.slot_list_append PySem.F.type_list_append mt_append (pv 4) (pa_cons (pe_op op_mul (pe_op op_sub pe_int (pe_op op_mul pe_int (pe_cal c__law_draw hr (pa_cons (pv 1) (pa_cons pe_int pa_nil))))) (pe_cal c__law_great hr (pa_cons (pv 1) pa_nil))) pa_nil))))))
      (C8.pss_cut (ps_set (i := 9) sc_law.nd rfl (.inr rfl) (pe_op op_add_str (pe_callTy call_str_int (by rfl) z.str (by decide +kernel) (pa_cons (pe_ix ix_tup (pv 3) pe_int (fun _ _ => rfl)) pa_nil)) (pe_ix ix_list (pe_lst (pa_cons (pe_op op_add_str pe_str (pe_callTy call_str_int (by rfl) z.str (by decide +kernel) (pa_cons (pe_ix ix_tup (pv 3) pe_int (fun _ _ => rfl)) pa_nil))) (pa_cons pe_str pa_nil))) (pe_callTy call_int1 (by rfl) z.int (by decide +kernel) (pa_cons (pe_cmpR op_eq (pe_ix ix_tup (pv 3) pe_int (fun _ _ => rfl)) pe_int (nomark _)) pa_nil)) (fun _ _ => rfl))))
      (pss_cons (ps_set (i := 8) sc_law.nd rfl (.inr rfl) (pe_join pe_str (pe_lc (own := [("_law_word", 10)]) (g := gName 10) (tt := tYes) (te := (tCB (fun xs H Q => ∃ i, xs = [.int i] ∧ i.natAbs.log2 < 1920 ∧ Q (.str (toString i)) H) (tCons (tVar 10) tNil))) (by rfl) sc_law.nd (pi_list (pv 4)) (blkOk_by (own := [("_law_word", 10)]) (N := ["_law_script", "_law_well_here", "_law_sign", "_law_one", "_law_words", "_law_cell", "_law_some", "_law_bad", "_law_line", "_law_line_text", "_law_word"]) (sc := defScope s_law) (by decide +kernel)) (fun _ _ _ _ _ => by exact (pg_name (i := 10) sc_law.nd rfl (.inl rfl))) (fun _ _ _ _ _ => by exact pts_nil) (fun _ _ _ _ _ => by exact (pe_callTy call_str_int (by rfl) z.str (by decide +kernel) (pa_cons (pv 10) pa_nil))))))
      (pss_cons (ps_if (PW.pt (pw_or (pt_cmpR op_ne (pe_cal c_show_fraction hr (pa_cons (pv 3) pa_nil)) (pv 9) (nomark _)) (pw_or (pt_cmpR op_ne (pe_cal c_show_way hr (pa_cons (pv 4) pa_nil)) (pv 8) (nomark _)) (pw_or1 (pt_cmpR op_ne (pe_cal c_show_wayT hr (pa_cons (pe_callTy call_tuple_of (by rfl) z.tuple (by decide +kernel) (pa_cons (pv 4) pa_nil)) pa_nil)) (pv 8) (nomark _)))))) (pss_one (ps_ret pe_bl)) pss_nil)
      (C8.pss_cut (ps_if (PW.pt (pw_or (pt_not (pt_val (pe_cal c__law_same hr (pa_cons (pe_calx c_read_fraction hr (pa_cons (pv 9) pa_nil)) (pa_cons (pv 3) pa_nil))))) (pw_or1 (pt_not (pt_val (pe_cal c__law_same hr (pa_cons (pe_calkx0 c_read_way_k hr (pk_cons (pv 8) pk_nil)) (pa_cons (pv 4) pa_nil)))))))) (pss_one (ps_ret pe_bl)) pss_nil)
      (pss_cons (ps_set (i := 1) sc_law.nd rfl (.inl rfl) (pe_cal c__law_well hr (pa_cons (pe_cal c__law_cell_at hr (pa_cons (pv 0) (pa_cons pe_int pa_nil))) pa_nil)))
      (pss_cons (ps_set (i := 6) sc_law.nd rfl (.inl rfl) (pe_lst (pa_cons (pe_cal c__law_spoilt hr (pa_cons (pv 9) (pa_cons (pv 1) pa_nil))) (pa_cons (pe_cal c__law_spoilt hr (pa_cons (pe_cal c__law_spoilt hr (pa_cons (pv 9) (pa_cons (pv 1) pa_nil))) (pa_cons (pv 1) pa_nil))) pa_nil))))
      (C8.pss_cut (ps_set (i := 6) sc_law.nd rfl (.inl rfl) (pe_op op_cat (pv 6) (pe_lst (pa_cons pe_str (pa_cons pe_str (pa_cons pe_str (pa_cons (pe_op op_mul_str pe_str pe_int) pa_nil)))))))
      (C8.pss_cut (ps_for PassesOwn.never rfl (pi_list (pe_op op_cat (pv 6) (pe_lst (pa_cons pe_str (pa_cons pe_str (pa_cons pe_str (pa_cons pe_str (pa_cons pe_str (pa_cons pe_str (pa_cons pe_str (pa_cons pe_str (pa_cons pe_str (pa_cons pe_str (pa_cons pe_str (pa_cons (pe_op op_mul_str pe_str pe_int) pa_nil))))))))))))))) (pg_name (i := 9) sc_law.nd rfl (.inr rfl)) (pss_one (ps_if (pt_not (pt_val (pe_cal c__law_same hr (pa_cons (pe_lamS (T := [(Pt, lawQ)]) (t := fun E => tCallS (spReadF K CT) (WE (fun cls d _ H => E cls d H)) (tCons (tVar 9) tNil)) (k := 5) (L := LamX.lamS_by (by show LamX.lamSB (defScope s_law) _ = true; decide +kernel)) GT (told_gives XX ECT z.isinstance hr) TB hr (fun E A out s H fl cd rm => by exact (pe_calxS (W := fun cls d _ H => E cls d H) c_read_fraction rm takesLam (pa_cons (pv 9) pa_nil)))) (pa_cons (pe_cal c__law_due hr (pa_cons (pe_cal c__law_read_fraction hr (pa_cons (pv 9) pa_nil)) pa_nil)) pa_nil))))) (pss_one (ps_ret pe_bl)) pss_nil)))
      (C8.pss_cut (ps_for PassesOwn.never rfl (pi_list (pe_lst (pa_cons (pe_cal c__law_spoilt hr (pa_cons (pv 8) (pa_cons (pv 1) pa_nil))) (pa_cons (pe_cal c__law_spoilt hr (pa_cons (pe_cal c__law_spoilt hr (pa_cons (pv 8) (pa_cons (pv 1) pa_nil))) (pa_cons (pv 1) pa_nil))) (pa_cons pe_str (pa_cons pe_str (pa_cons (pe_op op_add_str pe_str (pe_op op_mul_str pe_str pe_int)) pa_nil))))))) (pg_name (i := 8) sc_law.nd rfl (.inr rfl)) (pss_one (ps_if (pt_not (pt_val (pe_cal c__law_same hr (pa_cons (pe_lamS (T := [(Pt, lawQ)]) (t := fun E => tCallS (spReadW K CT) (WE (fun cls d _ H => E cls d H)) (tCons (tVar 8) tNil)) (k := 5) (L := LamX.lamS_by (by show LamX.lamSB (defScope s_law) _ = true; decide +kernel)) GT (told_gives XX ECT z.isinstance hr) TB hr (fun E A out s H fl cd rm => by exact (pe_calxS (W := fun cls d _ H => E cls d H) c_read_way rm takesLam (pa_cons (pv 8) pa_nil)))) (pa_cons (pe_cal c__law_due hr (pa_cons (pe_cal c__law_read_way hr (pa_cons (pv 8) pa_nil)) pa_nil)) pa_nil))))) (pss_one (ps_ret pe_bl)) pss_nil)))
      (pss_cons (ps_set (i := 7) sc_law.nd rfl (.inr rfl) (pe_ix ix_list (pe_lst (pa_cons pe_non (pa_cons pe_int (pa_cons pe_bl (pa_cons (pe_lst (pa_cons (pv 9) pa_nil)) (pa_cons (pe_tup (pa_cons pe_str pa_nil)) (pa_cons pe_dnewK pa_nil))))))) (pe_cal c__law_draw hr (pa_cons (pv 1) (pa_cons pe_int pa_nil))) (fun _ _ => rfl)))
      (pss_cons (ps_if (pt_cmpR op_ne (pe_lamS (T := [(Pt, lawQ)]) (t := fun E => tCallS (spReadW K CT) (WE (fun cls d _ H => E cls d H)) (tCons (tVar 7) tNil)) (k := 5) (L := LamX.lamS_by (by show LamX.lamSB (defScope s_law) _ = true; decide +kernel)) GT (told_gives XX ECT z.isinstance hr) TB hr (fun E A out s H fl cd rm => by exact (pe_calxS (W := fun cls d _ H => E cls d H) c_read_way rm takesLam (pa_cons (pv 7) pa_nil)))) pe_str (nomark _)) (pss_one (ps_ret pe_bl)) pss_nil)
      (pss_one (ps_ret (pe_cmpR op_eq (pe_lamS (T := [(Pt, lawQ)]) (t := fun E => tCallS (spReadF K CT) (WE (fun cls d _ H => E cls d H)) (tCons (tVar 7) tNil)) (k := 5) (L := LamX.lamS_by (by show LamX.lamSB (defScope s_law) _ = true; decide +kernel)) GT (told_gives XX ECT z.isinstance hr) TB hr (fun E A out s H fl cd rm => by exact (pe_calxS (W := fun cls d _ H => E cls d H) c_read_fraction rm takesLam (pa_cons (pv 7) pa_nil)))) pe_str (nomark _))))))))))))))))))))), ?_⟩
    refine ⟨_, rfl, as, ns, 0, rfl, hS, _, rfl, fun w1 hw1 H1 s1 k1 => ?_⟩
    refine ⟨_, rfl, w1, 0, 2, rfl, k1, by decide, by decide, by decide +kernel, fun r2 H2 r20 r21 d2 _ k2 => ⟨_, _, rfl, rfl, .inl ⟨by decide, by decide⟩, _, _, rfl, rfl, ?_⟩⟩
    refine ⟨_, rfl, _, rfl, w1, 0 + 1, rfl, k2, by decide, by decide, fun a3 H3 a30 a31 d3 k3 => ⟨_, _, rfl, rfl, .inl ⟨by omega, by omega⟩, ?_⟩⟩
    refine ⟨_, rfl, w1, 0 + 1 + 51, rfl, k3, by decide, by decide, fun b4 H4 b40 b41 d4 k4 => ⟨_, _, rfl, ?_⟩⟩
    generalize hb : (if b4 > 1 then b4 else 1) = b
    have b0 : 0 < b ∧ b < 10 ^ 400 := by
      rw [← hb]
      split
      · exact ⟨by omega, b41⟩
      · exact ⟨by decide, by decide +kernel⟩
    have bs : b.natAbs < 10 ^ 400 := by
      have : (b.natAbs : Int) < ((10 ^ 400 : Nat) : Int) := by
        rw [Int.natAbs_of_nonneg (by omega)]
        exact_mod_cast b0.2
      exact_mod_cast this
    have ts : ((1 - 2 * r2) * a3).natAbs < 10 ^ 400 := by
      have e : ((1 - 2 * r2) * a3).natAbs = a3.natAbs := by
        rw [Int.natAbs_mul]
        rcases (by omega : r2 = 0 ∨ r2 = 1) with rfl | rfl
        · exact Nat.one_mul _
        · exact Nat.one_mul _
      rw [e]
      have : (a3.natAbs : Int) < ((10 ^ 400 : Nat) : Int) := by
        rw [Int.natAbs_of_nonneg a30]
        exact_mod_cast a31
      exact_mod_cast this
    refine ⟨_, _, rfl, b0.1, ten_two bs, fun po hpo => ?_⟩
    have fr := fr_low (t := (1 - 2 * r2) * a3) b0.1 ts bs
    generalize lowT ((1 - 2 * r2) * a3) b = t at *
    generalize lowB ((1 - 2 * r2) * a3) b = u at *
    have S4 : Same H H4 := same_but s1 ((d2.trans d3).trans d4) hw1
    have s5 := same_new (o := .tup [.int t, .int u]) hpo
    have np : po ≠ w1 := k4.ne hpo
    refine ⟨MidA H as, ?_, fun σ1 Ha hM => ?_⟩
    · refine ⟨_, rfl, w1, _, 3, rfl, k4.same s5, by decide, by decide, by decide +kernel, fun r6 H6 r60 r61 d6 _ k6 => ⟨rfl, _, rfl, ?_⟩⟩
      have h6 : H6 po = some (.tup [.int t, .int u]) := d6 _ _ np upd_same
      have S6 : Same H H6 := fun b o e => d6 b o (ne_of_none e hw1) (s5 _ _ (S4 _ _ e))
      refine ite2 (fun _ => ?_) (fun _ => ?_)
      · refine ⟨_, rfl, po, _, 0, .int t, rfl, rfl, SqT.of h6, a0, (by show 2 ≤ sizeLine; decide), fun p7 hp7 => ?_⟩
        exact ⟨w1, p7, _, t, 1, rfl, S6.trans (same_new hp7), upd_same, fr.one⟩
      · exact ⟨w1, po, _, t, u, rfl, S6, h6, fr⟩
    clear S4 s5 np fr hpo ts bs b0 hb k4 k3 k2 k1 d4 d3 d2 s1 hw1
    obtain ⟨w1', po', sg, t', u', rfl, SA, hpo', fr'⟩ := hM
    refine ⟨(by show 0 ≤ sizeLine; decide), fun Lw hLw => ?_⟩
    refine ⟨MidB H as, ?_, fun σ2 Hb hM => ?_⟩
    · obtain ⟨cs, hcs, hcl⟩ := cut_ints ns (some 1) (some 21)
      have hS2 : SqL K Ha as (ns.map V.int) := Same.sqL SA hS
      have sW := same_new (o := .lst []) hLw
      refine ⟨_, rfl, _, rfl, _, rfl, as, _, rfl, Same.sqL sW hS2, fun l1 h1 => ?_⟩
      rw [hcs]
      have s7 := same_new (o := .lst (cs.map V.int)) h1
      have nLl : l1 ≠ Lw := fun e => by rw [e, upd_same] at h1; cases h1
      refine ⟨l1, rfl, ⟨_, SqL.of upd_same⟩, for_list (K := K) (a := l1) (xs := cs.map V.int) (fun i σ H' => ∃ (v1 v5 : Option V) (ws : List Int), σ = [some (.ref as), v1, some sg, some (.ref po'), some (.ref Lw), v5, none, none, none, none, none] ∧ Same Ha H' ∧ H' l1 = some (.lst (cs.map V.int)) ∧ H' Lw = some (.lst (ws.map V.int)) ∧ (∀ n ∈ ws, n.natAbs < 10 ^ 400) ∧ ws.length = i) ⟨_, _, [], rfl, sW.trans s7, upd_same, s7 _ _ upd_same, (fun n h => nomatch h), rfl⟩ (fun i σ H' _ hP => ?_) (fun i x σ H0 hx hP => ?_) (fun σ H' hP => ?_)⟩
      · obtain ⟨_, _, _, _, _, h, _⟩ := hP
        exact SqL.of h
      · obtain ⟨v1, v5, ws, rfl, s0, e1, e2, hw, hi⟩ := hP
        rw [List.getElem?_map] at hx
        obtain ⟨cell, hce, rfl⟩ := Option.map_eq_some_iff.mp hx
        have hi2 : i < cs.length := (List.getElem?_eq_some_iff.mp hce).1
        refine ⟨_, rfl, cell, rfl, fun ww hp H1 s1 k1 => ?_⟩
        have nL : Lw ≠ ww := ne_of_none e2 hp
        have nn := ne_of_none e2 hp
        refine ⟨_, rfl, .inl ⟨rfl, _, SqL.of (s1 _ _ e2)⟩, _, rfl, ww, 0, 2, rfl, k1, by decide, by decide, by decide +kernel, fun r2 H2 r20 r21 d2 _ k2 => ⟨_, _, rfl, rfl, .inl ⟨by decide, by decide⟩, _, _, rfl, rfl, ?_⟩⟩
        refine ⟨_, rfl, ww, 0 + 1, rfl, k2, by decide, by decide, fun a3 H3 a30 a31 d3 k3 => ⟨_, _, rfl, rfl, .inl ⟨by omega, by omega⟩, ?_⟩⟩
        have e3 := d3 _ _ nL (d2 _ _ nL (s1 _ _ e2))
        have e4 : Same Ha H3 := fun b o e => d3 b o (ne_of_none (s0 _ _ e) hp) (d2 b o (ne_of_none (s0 _ _ e) hp) (s1 b o (s0 b o e)))
        have e5 : H3 l1 = some (.lst (cs.map V.int)) := d3 _ _ (ne_of_none e1 hp) (d2 _ _ (ne_of_none e1 hp) (s1 _ _ e1))
        refine ⟨Lw, _, _, rfl, rfl, e3, (by rw [List.length_map]; exact sl_lt (by omega)), ?_⟩
        refine ⟨_, _, ws ++ [(1 - 2 * r2) * a3], rfl, fun b o e => ?_, ?_, ?_, fun n hn => ?_, ?_⟩
        · rw [upd_ne (ne_of_none e hLw)]
          exact e4 _ _ e
        · rw [upd_ne nLl]
          exact e5
        · rw [upd_same, List.map_append]
          rfl
        · rcases List.mem_append.mp hn with hn | hn
          · exact hw n hn
          · rw [List.mem_singleton.mp hn]
            exact sgn_small r20 r21 a30 a31
        · rw [List.length_append, List.length_singleton, hi]
      · obtain ⟨v1, v5, ws, rfl, s0, e1, e2, hw, hi⟩ := hP
        exact ⟨po', Lw, sg, v1, v5, t', u', ws, rfl, SA.trans s0, s0 _ _ hpo', fr', e2, hw, by rw [List.length_map] at hi; omega⟩
    clear hLw hpo' fr' SA
    obtain ⟨po, Lw', sg, v1, v5, t, u, ws, rfl, SB, hpo, fr, hW, hw, hwl⟩ := hM
    have lt := itx_len fr.ts
    have lu := itx_len fr.us
    have lf := fracT_len fr
    have lw := way_len hw hwl
    refine ⟨MidB1 H as, ?_, fun σ3 Hc hM => ?_⟩
    · refine ⟨_, rfl, po, _, 0, .int t, rfl, rfl, SqT.of hpo, a0, t, rfl, log_ten fr.ts, ?_⟩
      refine ⟨_, rfl, po, _, 1, .int u, rfl, rfl, SqT.of hpo, a1, u, rfl, log_ten fr.us, _, _, rfl, rfl, ?_, (by show 2 ≤ sizeLine; decide), fun p1 hp1 => ?_⟩
      · rw [int_itx, slash_S, SX.S_len, SX.S_len]
        exact sl_le (by simp only [List.length_singleton]; omega)
      rw [int_itx, int_itx, slash_S, SX.S_cat]
      have s1 := same_new (o := .lst [sV ([47] ++ itx u), V.str (Str.ofString "")]) hp1
      refine ⟨_, rfl, po, _, 1, .int u, rfl, rfl, SqT.of (s1 _ _ hpo), a1, rfl, .inr ⟨_, rfl, ?_⟩⟩
      have fin : ∀ m : List Nat, m = fracT t u → MidB1 H as [some (.ref as), v1, some sg, some (.ref po), some (.ref Lw'), v5, none, none, none, some (sV m), none] (upd Hb p1 (.lst [sV ([47] ++ itx u), V.str (Str.ofString "")])) := fun m e => by
        rw [e]
        exact ⟨po, Lw', sg, v1, v5, t, u, ws, rfl, SB.trans s1, s1 _ _ hpo, fr, s1 _ _ hW, hw, hwl⟩
      by_cases c : u = 1
      · rw [decide_eq_true (show V.int u = V.int 1 by rw [c])]
        refine ⟨p1, _, 1, .str (Str.ofString ""), rfl, rfl, SqL.of upd_same, a1, _, _, rfl, rfl, ?_, ?_⟩
        · rw [nil_S, SX.S_len, SX.S_len]
          exact sl_le (by simp only [List.length_nil]; omega)
        · rw [nil_S, SX.S_cat]
          refine fin _ ?_
          unfold fracT
          rw [if_pos c, List.append_nil]
      · rw [decide_eq_false (fun z => c (V.int.inj z))]
        refine ⟨p1, _, 0, _, rfl, rfl, SqL.of upd_same, a0, _, _, rfl, rfl, ?_, ?_⟩
        · rw [SX.S_len, SX.S_len]
          exact sl_le (by simp only [List.length_append, List.length_singleton]; omega)
        · rw [SX.S_cat]
          refine fin _ ?_
          unfold fracT
          rw [if_neg c]
          rfl
    clear hpo fr SB hW hw hwl lt lu lf lw
    obtain ⟨po, Lw, sg, v1, v5, t, u, ws, rfl, SB, hpo, fr, hW, hw, hwl⟩ := hM
    have lf := fracT_len fr
    have lw := way_len hw hwl
    refine ⟨⟨_, rfl⟩, _, rfl, _, rfl, ⟨_, SqL.of hW⟩, fun Da hD => ?_⟩
    refine lc_it (walk_list (K := K) (a := Lw) (xs := ws.map V.int)) (fun i H4 => Same Hc H4 ∧ H4 Da = some (.lst ((ws.take i).map fun n => sV (itx n)))) ⟨same_new hD, upd_same⟩ (fun i H4 hi hP => SqL.of (hP.1 _ _ hW)) (fun i x' H4 H5 hi hP hy => ?_) (fun H4 hP => ?_)
    · obtain ⟨s4, hD4⟩ := hP
      obtain ⟨rfl, hx⟩ := hy
      rw [List.getElem?_map] at hx
      obtain ⟨n, hn, rfl⟩ := Option.map_eq_some_iff.mp hx
      refine ⟨rfl, _, rfl, n, rfl, log_ten (hw n (List.mem_of_getElem? hn)), ?_⟩
      rw [int_itx]
      exact list_grow (p := fun n => sV (itx n)) (by omega) hD s4 hD4 (Same.refl _) hn
    obtain ⟨s4, hD4⟩ := hP
    rw [List.length_map, List.take_length] at hD4
    refine ⟨_, Da, ws.map fun n => SX.S (itx n), rfl, rfl, .inl (SqL.of (by rw [hD4, List.map_map]; rfl)), ?_, ?_⟩
    · have := sum_le ws hw
      have e1 : (Str.ofString " ").length = 1 := rfl
      rw [List.length_map, e1]
      omega
    rw [join_way]
    refine ⟨_, rfl, po, t, u, rfl, SqT.of (s4 _ _ hpo), fr.ts, fr.us, _, rfl, rfl, _, rfl, iteNS rfl ?_⟩
    refine ⟨_, rfl, Lw, ws, rfl, SqL.of (s4 _ _ hW), hw, by omega, fun H5 s5 => ⟨_, rfl, rfl, _, rfl, iteNS rfl ?_⟩⟩
    refine ⟨_, rfl, Lw, _, rfl, .inl ⟨SqL.of (s5 _ _ (s4 _ _ hW)), fun p6 hp6 => ?_⟩⟩
    have s6 := same_new (o := .tup (ws.map V.int)) hp6
    refine ⟨p6, ws, rfl, SqT.of upd_same, hw, by omega, fun H7 s7 => ⟨_, rfl, rfl, _, rfl, iteNS rfl ?_⟩⟩
    have S7 : Same Hc H7 := s4.trans (s5.trans (s6.trans s7))
    refine ⟨MidC H as, ?_, fun σ4 Hd hM => ?_⟩
    · refine ⟨_, rfl, _, rfl, .inl ⟨_, rfl, by omega, fun p8 H8 t2 u2 e s8 hp hh => ?_, fun e => by rw [readF_frac fr] at e; cases e⟩⟩
      rw [readF_frac fr] at e
      cases e
      refine ⟨_, rfl, _, _, rfl, Al.frac hh (s8 _ _ (S7 _ _ hpo)), fun H9 s9 => ⟨_, rfl, iteF ?_⟩⟩
      refine ⟨_, rfl, rfl, rfl, _, rfl, .inl ⟨_, rfl, by omega, fun pa Ha n2 e sa hpa hha => ?_, fun e => by rw [readW_way hw] at e; cases e⟩⟩
      rw [readW_way hw] at e
      cases e
      refine ⟨_, rfl, _, _, rfl, Al.ints (by omega) hha (sa _ _ (s9 _ _ (s8 _ _ (S7 _ _ hW)))), fun Hb sb => ⟨_, rfl, iteF ?_⟩⟩
      exact ⟨po, Lw, sg, v1, v5, _, _, rfl, SB.trans (S7.trans (s8.trans (s9.trans (sa.trans sb)))), lf, lw⟩
    clear S7 s7 s6 s5 s4 hD4 hD hp6 hpo fr SB hW hw hwl lf lw
    obtain ⟨po, Lw, sg, v1, v5, lt, ll, rfl, SC, lf, lw⟩ := hM
    refine ⟨_, rfl, as, ns, 21, rfl, Same.sqL SC hS, _, rfl, fun wl hwl H1 s1 k1 => ?_⟩
    refine ⟨_, rfl, _, rfl, lt, wl, 0, rfl, by omega, k1, by decide, by decide, fun m2 H2 l2 d2 k2 => ?_⟩
    refine ⟨_, rfl, _, rfl, lt, wl, 0 + 3, rfl, by omega, k2, by decide, by decide, fun m3 H3 l3 d3 k3 => ?_⟩
    refine ⟨_, rfl, m3, wl, 0 + 3 + 3, rfl, by omega, k3, by decide, by decide, fun m4 H4 l4 d4 k4 => ?_⟩
    refine ⟨(by show 2 ≤ sizeLine; decide), fun L1 hL1 => ?_⟩
    have s5 := same_new (o := .lst [sV m2, sV m4]) hL1
    have S4 : Same H H4 := fun b o e => by
      have n := ne_of_none (SC _ _ e) hwl
      exact d4 _ _ n (d3 _ _ n (d2 _ _ n (s1 _ _ (SC _ _ e))))
    refine ⟨MidD H as, ?_, fun σ5 He hM => ?_⟩
    · obtain ⟨mo, mt, _⟩ := mulD 49 401 (.inl rfl) (.inr rfl)
      refine ⟨_, rfl, _, _, rfl, rfl, mo, (by show 4 ≤ sizeLine; decide), fun L2 hL2 => ?_⟩
      have s6 := same_new (o := .lst [V.str (Str.ofString "1/0"), V.str (Str.ofString "0/5"), V.str (Str.ofString "-0/3"), V.str (Txt.mul (SX.S [49]) ((401 : Nat) : Int))]) hL2
      refine ⟨L1, L2, _, _, rfl, rfl, s6 _ _ upd_same, upd_same, (by show 2 + 4 ≤ sizeLine; decide), fun L hL => ?_⟩
      have s7 := same_new (o := .lst ([sV m2, sV m4] ++ [V.str (Str.ofString "1/0"), V.str (Str.ofString "0/5"), V.str (Str.ofString "-0/3"), V.str (Txt.mul (SX.S [49]) ((401 : Nat) : Int))])) hL
      exact ⟨po, Lw, wl, L, sg, v5, lt, ll, _, rfl, S4.trans (s5.trans (s6.trans s7)), lw, k4.same (s5.trans (s6.trans s7)), upd_same, okA (okC (.s (by omega)) (okC (.s (by omega)) okN)) (okC (.lit _ (by decide)) (okC (.lit _ (by decide)) (okC (.lit _ (by decide)) (okC mt okN)))), lf, by show 2 + 4 ≤ 6; decide⟩
    clear S4 s5 hL1 k4 d4 k3 d3 k2 d2 k1 s1 SC hwl
    obtain ⟨po, Lw, wl, Ls, sg, v5, lt, ll, xs, rfl, SD, lw, hwl, hLs, hxs, lf, lx⟩ := hM
    have tb : LamX.Tabs [(Pt, lawQ)] He := LamX.Tabs.ext (fun p hp => by cases List.mem_singleton.mp hp; exact LamX.TabS.nil hPt) SD
    refine ⟨MidE [(Pt, lawQ)] as, ?_, fun σ6 Hf hM => ?_⟩
    · obtain ⟨mo, mt, _⟩ := mulD 57 400 (.inr (.inr rfl)) (.inl rfl)
      refine ⟨_, rfl, _, _, rfl, rfl, mo, (by show 12 ≤ sizeLine; decide), fun L2 hL2 => ?_⟩
      obtain ⟨ts, hts⟩ : ∃ ts : List V, ts = [V.str (Str.ofString "2/4"), V.str (Str.ofString "7/1"), V.str (Str.ofString ""), V.str (Str.ofString "-"), V.str (Str.ofString "1/-2"), V.str (Str.ofString "01"), V.str (Str.ofString "3/02"), V.str (Str.ofString " 1"), V.str (Str.ofString "1 "), V.str (Str.ofString "--1"), V.str (Str.ofString "1/2/3"), V.str (Txt.mul (SX.S [57]) ((400 : Nat) : Int))] := ⟨_, rfl⟩
      have tok : ∀ y ∈ ts, TxtOk y := by
        rw [hts]
        exact (okC (.lit _ (by decide)) (okC (.lit _ (by decide)) (okC (.lit _ (by decide)) (okC (.lit _ (by decide)) (okC (.lit _ (by decide)) (okC (.lit _ (by decide)) (okC (.lit _ (by decide)) (okC (.lit _ (by decide)) (okC (.lit _ (by decide)) (okC (.lit _ (by decide)) (okC (.lit _ (by decide)) (okC mt okN))))))))))))
      have tl : ts.length = 12 := by rw [hts]; rfl
      have s6 := same_new (o := .lst ts) hL2
      refine ⟨Ls, L2, xs, ts, rfl, rfl, ?_, by rw [hts]; exact upd_same, Nat.le_trans (show xs.length + ts.length ≤ 1000 by omega) (by decide), fun L hL => ?_⟩
      · rw [hts] at s6
        exact s6 _ _ hLs
      obtain ⟨ys, hys⟩ : ∃ ys, ys = xs ++ ts := ⟨_, rfl⟩
      have ok2 : ∀ y ∈ ys, TxtOk y := by
        rw [hys]
        exact okA hxs tok
      refine ⟨L, rfl, ⟨_, SqL.of upd_same⟩, for_list (K := K) (a := L) (xs := ys) (fun i σ H' => ∃ x9 : V, σ = [some (.ref as), some (.ref wl), some sg, some (.ref po), some (.ref Lw), v5, some (.ref Ls), none, some (sV ll), some x9, none] ∧ H' L = some (.lst ys) ∧ LamX.Tabs [(Pt, lawQ)] H' ∧ WellAt H' wl 9) ⟨_, rfl, by rw [hys]; exact upd_same, (tb.ext (same_new hL2)).ext (same_new hL), (hwl.same (same_new hL2)).same (same_new hL)⟩ (fun i σ H' _ hP => ?_) (fun i x σ H0 hx hP => ?_) (fun σ H' hP => ?_)⟩
      · obtain ⟨_, _, h, _⟩ := hP
        exact SqL.of h
      · obtain ⟨x9, rfl, hL0, tb0, wl0⟩ := hP
        obtain ⟨l, rfl, hl⟩ := ok2 x (List.mem_of_getElem? hx)
        cases e : readF l with
        | none =>
          refine ⟨tb0, fun A en TA => fun E' Q' hR hT => ⟨_, rfl, _, rfl, .inl ⟨l, rfl, hl, (fun p B t2 u2 e2 => by rw [e] at e2; cases e2), fun _ d B sB hd => hR d B hd fun D sD => ?_⟩⟩⟩
          refine ⟨_, rfl, l, rfl, hl, fun _ D2 s2 => ⟨_, rfl, .inl ⟨rfl, ?_⟩⟩, fun t2 u2 e2 => by rw [e] at e2; cases e2⟩
          refine ⟨_, _, rfl, .inl ⟨rfl, .str _⟩, fun D3 s3 => ⟨_, rfl, iteF ?_⟩⟩
          have SD : Same A D3 := sB.trans (sD.trans (s2.trans s3))
          exact ⟨_, rfl, SD _ _ (en _ _ hL0 (fun _ z => by cases z)), TA.ext SD, (ext_well en wl0).same SD⟩
        | some pr =>
          obtain ⟨t, u⟩ := pr
          skip
          refine ⟨tb0, fun A en TA => fun E' Q' hR hT => ⟨_, rfl, _, rfl, .inl ⟨l, rfl, hl, fun p B t2 u2 e2 sB hp hh => ?_, fun e2 => by rw [e] at e2; cases e2⟩⟩⟩
          rw [e] at e2
          cases e2
          refine hT _ _ fun pt hpt => ?_
          have s1 := same_new (o := .tup [.str "told", .ref p]) hpt
          refine ⟨_, rfl, l, rfl, hl, (fun e2 => by rw [e] at e2; cases e2), fun t2 u2 e2 p2 B2 s2 h2 => ?_⟩
          rw [e] at e2
          cases e2
          refine ⟨_, rfl, .inr ⟨(fun z => nomatch z), fun p3 hp3 => ?_⟩⟩
          have s3 := same_new (o := .tup [.str "told", .ref p2]) hp3
          refine ⟨_, _, rfl, Al.told (s3 _ _ (s2 _ _ upd_same)) upd_same (Al.frac (s3 _ _ (s2 _ _ (s1 _ _ hh))) (s3 _ _ h2)), fun D3 s4 => ⟨_, rfl, iteF ?_⟩⟩
          have SD : Same A D3 := sB.trans (s1.trans (s2.trans (s3.trans s4)))
          exact ⟨_, rfl, SD _ _ (en _ _ hL0 (fun _ z => by cases z)), TA.ext SD, (ext_well en wl0).same SD⟩
      · obtain ⟨x9, rfl, _, tb0, wl0⟩ := hP
        exact ⟨po, Lw, wl, Ls, sg, x9, v5, ll, rfl, tb0, lw, wl0⟩
    clear SD hwl hLs hxs lf lx tb
    obtain ⟨po, Lw, wl, Ls, sg, x9, v5, ll, rfl, tb, lw, hwl⟩ := hM
    refine ⟨MidF [(Pt, lawQ)] as, ?_, fun σ7 Hg hM => ?_⟩
    · refine ⟨_, rfl, _, rfl, ll, wl, 9, rfl, by omega, hwl, by decide, by decide, fun m2 H2 l2 d2 k2 => ?_⟩
      refine ⟨_, rfl, _, rfl, ll, wl, 9 + 3, rfl, by omega, k2, by decide, by decide, fun m3 H3 l3 d3 k3 => ?_⟩
      refine ⟨_, rfl, m3, wl, 9 + 3 + 3, rfl, by omega, k3, by decide, by decide, fun m4 H4 l4 d4 k4 => ?_⟩
      obtain ⟨mo, mt, ml⟩ := mulD 50 401 (.inr (.inl rfl)) (.inr rfl)
      have e2 : (Str.ofString "1 ").length = 2 := rfl
      refine ⟨_, _, rfl, rfl, mo, _, _, rfl, rfl, (by rw [e2]; exact sl_le (show 2 + (Txt.mul (SX.S [50]) ((401 : Nat) : Int)).length ≤ 100000 by omega)), (by show 5 ≤ sizeLine; decide), fun L hL => ?_⟩
      obtain ⟨ys, hys⟩ : ∃ ys : List V, ys = [sV m2, sV m4, V.str (Str.ofString " "), V.str (Str.ofString "1  2"), V.str (Str.ofString "1 " ++ Txt.mul (SX.S [50]) ((401 : Nat) : Int))] := ⟨_, rfl⟩
      have ok2 : ∀ y ∈ ys, TxtOk y := by
        rw [hys]
        refine okC (.s (by omega)) (okC (.s (by omega)) (okC (.lit _ (by decide)) (okC (.lit _ (by decide)) (okC (.lit _ ?_) okN))))
        exact Nat.le_trans (show _ ≤ 1000 by decide +kernel) (by decide)
      have d5 := (d2.trans d3).trans d4
      have tb1 : LamX.Tabs [(Pt, lawQ)] H4 := tabs_but tb d5 hwl
      refine ⟨L, rfl, ⟨_, SqL.of upd_same⟩, for_list (K := K) (a := L) (xs := ys) (fun i σ H' => ∃ v8 : Option V, σ = [some (.ref as), some (.ref wl), some sg, some (.ref po), some (.ref Lw), v5, some (.ref Ls), none, v8, some x9, none] ∧ H' L = some (.lst ys) ∧ LamX.Tabs [(Pt, lawQ)] H' ∧ WellAt H' wl 18) ⟨_, rfl, by rw [hys]; exact upd_same, tb1.ext (same_new hL), k4.same (same_new hL)⟩ (fun i σ H' _ hP => ?_) (fun i x σ H0 hx hP => ?_) (fun σ H' hP => ?_)⟩
      · obtain ⟨_, _, h, _⟩ := hP
        exact SqL.of h
      · obtain ⟨v8, rfl, hL0, tb0, wl0⟩ := hP
        obtain ⟨l, rfl, hl⟩ := ok2 x (List.mem_of_getElem? hx)
        cases e : readW l with
        | none =>
          refine ⟨tb0, fun A en TA => fun E' Q' hR hT => ⟨_, rfl, _, rfl, .inl ⟨l, rfl, hl, (fun p B n2 e2 => by rw [e] at e2; cases e2), fun _ d B sB hd => hR d B hd fun D sD => ?_⟩⟩⟩
          refine ⟨_, rfl, l, rfl, hl, fun _ D2 s2 => ⟨_, rfl, .inl ⟨rfl, ?_⟩⟩, fun n2 e2 => by rw [e] at e2; cases e2⟩
          refine ⟨_, _, rfl, .inl ⟨rfl, .str _⟩, fun D3 s3 => ⟨_, rfl, iteF ?_⟩⟩
          have SD : Same A D3 := sB.trans (sD.trans (s2.trans s3))
          exact ⟨_, rfl, SD _ _ (en _ _ hL0 (fun _ z => by cases z)), TA.ext SD, (ext_well en wl0).same SD⟩
        | some pr =>
          obtain ⟨ms, hms⟩ : ∃ ms, ms = pr := ⟨_, rfl⟩
          rw [← hms] at e
          refine ⟨tb0, fun A en TA => fun E' Q' hR hT => ⟨_, rfl, _, rfl, .inl ⟨l, rfl, hl, fun p B n2 e2 sB hp hh => ?_, fun e2 => by rw [e] at e2; cases e2⟩⟩⟩
          rw [e] at e2
          cases e2
          refine hT _ _ fun pt hpt => ?_
          have s1 := same_new (o := .tup [.str "told", .ref p]) hpt
          refine ⟨_, rfl, l, rfl, hl, (fun e2 => by rw [e] at e2; cases e2), fun n2 e2 p2 B2 s2 h2 => ?_⟩
          rw [e] at e2
          cases e2
          refine ⟨_, rfl, .inr ⟨(fun z => nomatch z), fun p3 hp3 => ?_⟩⟩
          have s3 := same_new (o := .tup [.str "told", .ref p2]) hp3
          refine ⟨_, _, rfl, Al.told (s3 _ _ (s2 _ _ upd_same)) upd_same (Al.ints (by have := readW_len e; omega) (s3 _ _ (s2 _ _ (s1 _ _ hh))) (s3 _ _ h2)), fun D3 s4 => ⟨_, rfl, iteF ?_⟩⟩
          have SD : Same A D3 := sB.trans (s1.trans (s2.trans (s3.trans s4)))
          exact ⟨_, rfl, SD _ _ (en _ _ hL0 (fun _ z => by cases z)), TA.ext SD, (ext_well en wl0).same SD⟩
      · obtain ⟨v8, rfl, _, tb0, wl0⟩ := hP
        exact ⟨po, Lw, wl, Ls, sg, x9, v5, v8, rfl, tb0, wl0⟩
    clear hwl lw tb
    obtain ⟨po, Lw, wl, Ls, sg, x9, v5, v8, rfl, tb, hwl⟩ := hM
    refine ⟨_, rfl, (by show 1 ≤ sizeLine; decide), fun b1 hb1 => ?_⟩
    have q1 := same_new (o := .lst [x9]) hb1
    refine ⟨(by show 1 ≤ sizeLine; decide), fun b2 hb2 => ?_⟩
    have q2 := same_new (o := .tup [V.str (Str.ofString "1")]) hb2
    refine fun b3 hb3 => ?_
    have q3 := same_new (o := .dK []) hb3
    refine ⟨(by show 6 ≤ sizeLine; decide), fun b4 hb4 => ?_⟩
    have q4 := same_new (o := .lst [V.non, V.int 5, V.bl true, V.ref b1, V.ref b2, V.ref b3]) hb4
    have h4 : (upd (upd (upd (upd Hg b1 (.lst [x9])) b2 (.tup [V.str (Str.ofString "1")])) b3 (.dK [])) b4 (.lst [V.non, V.int 5, V.bl true, V.ref b1, V.ref b2, V.ref b3])) b4 = some (.lst [V.non, V.int 5, V.bl true, V.ref b1, V.ref b2, V.ref b3]) := upd_same
    have h1 := q4 _ _ (q3 _ _ (q2 _ _ (upd_same (H := Hg) (a := b1) (o := .lst [x9]))))
    have h2 := q4 _ _ (q3 _ _ (upd_same (H := upd Hg b1 (.lst [x9])) (a := b2) (o := .tup [V.str (Str.ofString "1")])))
    have h3 := q4 _ _ (upd_same (H := upd (upd Hg b1 (.lst [x9])) b2 (.tup [V.str (Str.ofString "1")])) (a := b3) (o := .dK []))
    have Q4 : Same Hg _ := q1.trans (q2.trans (q3.trans q4))
    have tb4 := tb.ext Q4
    have wl4 := hwl.same Q4
    generalize upd (upd (upd (upd Hg b1 (.lst [x9])) b2 (.tup [V.str (Str.ofString "1")])) b3 (.dK [])) b4 (.lst [V.non, V.int 5, V.bl true, V.ref b1, V.ref b2, V.ref b3]) = G at *
    refine ⟨_, rfl, wl, 18, 6, rfl, wl4, by decide, by decide, by decide +kernel, fun r5 H5 r50 r51 d5 _ k5 => ?_⟩
    have nw : ∀ b o, Hg b = none → G b = some o → H5 b = some o := fun b o h e => d5 b o (hwl.ne h) e
    have hg : ∃ (x : V) (t : String), atI [V.non, V.int 5, V.bl true, V.ref b1, V.ref b2, V.ref b3] r5 = some x ∧ Kd H5 x t ∧ kitB t "str" = some false := by
      rcases (by omega : r5 = 0 ∨ r5 = 1 ∨ r5 = 2 ∨ r5 = 3 ∨ r5 = 4 ∨ r5 = 5) with rfl | rfl | rfl | rfl | rfl | rfl
      · exact ⟨_, _, rfl, .non, by decide +kernel⟩
      · exact ⟨_, _, rfl, .int 5, by decide +kernel⟩
      · exact ⟨_, _, rfl, .bl true, by decide +kernel⟩
      · exact ⟨_, _, rfl, .lst (nw _ _ hb1 h1), by decide +kernel⟩
      · exact ⟨_, _, rfl, .tup (nw _ _ (q1.free hb2) h2), by decide +kernel⟩
      · exact ⟨_, _, rfl, .dK (nw _ _ ((q1.trans q2).free hb3) h3), by decide +kernel⟩
    have l4 : H5 b4 = some (.lst [V.non, V.int 5, V.bl true, V.ref b1, V.ref b2, V.ref b3]) := nw _ _ ((q1.trans (q2.trans q3)).free hb4) h4
    have tb5 := tabs_but tb4 d5 wl4
    obtain ⟨x, ty, hat, hkd, hty⟩ := hg
    refine ⟨b4, _, r5, x, rfl, rfl, SqL.of l4, hat, ?_⟩
    refine ⟨tb5, fun A en TA => fun E' Q' hR hT => ⟨_, rfl, _, rfl, .inr ⟨⟨ty, (hkd.keep (.ext en)).ty, hty⟩, fun d B sB hd => hR d B hd fun D sD => ?_⟩⟩⟩
    refine ⟨rfl, _, rfl, iteNS rfl ?_⟩
    have eD : LamX.ExtN H5 D := en.trans (.of (sB.trans sD))
    refine ⟨TA.ext (sB.trans sD), fun A2 en2 TA2 => fun E' Q' hR hT => ⟨_, rfl, _, rfl, .inr ⟨⟨ty, (hkd.keep (.ext (eD.trans en2))).ty, hty⟩, fun d B sB hd => hR d B hd fun D sD => ?_⟩⟩⟩
    refine ⟨rfl, ?_⟩
    rw [decide_eq_true rfl]
    exact q _
end
end E1

namespace E1
open PySem PySem.Spec PyProof.Rows L2

abbrev s_NoText___init__ : Stmt := inClass (topS 5) 0
theorem notext_ini {P : Program} {w : World} {K : PySem.W.Frag} {mg : Str → Option Value} {C fI cc T : Addr} {to : Value} {td : Option Addr} {its : Array Value} {tn : Nat} {ts : Array (Option Value)} (lT : K.lookup T = some ⟨to, td, .seq its tn, ts⟩) (h1 : its.size = 1) (EC : PySem.ErrX.ErrC K mg "NoText" C) (IC : PySem.ErrX.IniC P K mg C fI cc "NoText.__init__" "line" s_NoText___init__ (.ref T)) : PySem.ErrX.IniOk P w K mg C fI "line" := by
  refine ⟨IC.iC, IC.tC, fun A R s x t0 v MO hx hnx hroom fv hq => ?_⟩
  refine PySem.ErrX.err_init EC IC ⟨by decide +kernel, by decide +kernel, by decide +kernel, by decide +kernel, by decide +kernel⟩ rfl rfl ?_ ?_ rfl rfl MO hx hnx hroom fv ?_ hq
  · intro e he
    simp only [List.mem_cons, List.not_mem_nil, or_false] at he
    rcases he with rfl | rfl
    · exact .c (by decide)
    · exact .f
  · decide
  · intro kV doc pm an cda ct
    obtain ⟨l⟩ := its
    match l, h1 with
    | [i0], _ =>
      have hk : ∃ k, bindArgs (PySem.W.ksFn "__init__" "NoText.__init__" (defArgs s_NoText___init__) (defBody s_NoText___init__) (defScope s_NoText___init__) (.ref T) kV doc pm an (.ref cda) ct cc) ⟨[.ref x, v], []⟩ = seqItems? (.ref T) >>= k ∧ k (some [i0].toArray) = pure [(Str.ofString "self", .ref x), ("line", v)] := ⟨_, rfl, rfl⟩
      obtain ⟨k, e1, e2⟩ := hk
      refine BindsTo.of_looks fun M => ?_
      rw [e1]
      exact looks_items MO.kin lT rfl (.of_pure e2)

end E1

namespace E1
open PySem PySem.Spec PyProof.Rows L2

theorem Vals.rev : ∀ {xs : List V} {us : List Value}, Vals xs us → Vals xs.reverse us.reverse
  | _, _, .nil => .nil
  | _, _, .cons r t => by
    rw [List.reverse_cons, List.reverse_cons]
    exact Vals.append (Vals.rev t) (.cons r .nil)
section
variable {P : Program} {w : World} {K : PySem.W.Frag} {mg : Str → Option Value} {base : Heap} {x : Str} {st : Stmt} {f : Addr} {fd : FuncData} {ps ks : List Str} {k n : Nat} {sp : Sp}
/-- a def without defaults: its arguments by keywords alone or behind others -/
theorem Fun.kbn {qual : Str} (F : Fun K x qual st f fd) {g : List Value → List Value → List Value} {gV : List V → List V → List V} (hrel : ∀ {vs : List V} {us : List Value} {zs : List V} {ws : List Value}, Vals vs us → Vals zs ws → Vals (gV vs zs) (g us ws))
    (h : ∀ (kV doc pm : Value) (an : Option Addr) (cdv ct : Value) (us ws : List Value), us.length = n → ws.length = ks.length → bindArgs (PySem.W.fnOf x qual (defArgs st) (defBody st) (defScope st) .none kV doc pm an cdv ct) ⟨us, ks.zip ws⟩ = pure (ps.zip (g us ws))) : KBn K fd ps n ks g gV := by
  rcases F.ex with ⟨_, _, v1, v2, v3, v4, v5, v6, _, same, _, _⟩
  subst same
  exact ⟨fun s us ws _ l1 l2 => .of_eq (h v1 v2 v3 v4 v5 v6 us ws l1 l2), hrel⟩
/-- a def with defaults, all arguments given -/
theorem FunD.kbn {qual : Str} {params : Arguments} {body : List Stmt} {scope : Scope} {dvs : List V} {kws : List (Str × V)} (F : FunD K x qual params body scope dvs kws f fd) (hd : dvs ≠ []) {g : List Value → List Value → List Value} {gV : List V → List V → List V} (hrel : ∀ {vs : List V} {us : List Value} {zs : List V} {ws : List Value}, Vals vs us → Vals zs ws → Vals (gV vs zs) (g us ws))
    (h : ∀ (T : Addr) (kV doc pm : Value) (an : Option Addr) (cdv ct : Value) (us ws its : List Value), us.length = n → ws.length = ks.length → its.length = dvs.length → ∃ k, bindArgs (PySem.W.fnOf x qual params body scope (.ref T) kV doc pm an cdv ct) ⟨us, ks.zip ws⟩ = seqItems? (.ref T) >>= k ∧ k (some its.toArray) = pure (ps.zip (g us ws))) : KBn K fd ps n ks g gV := by
  rcases F.ex with ⟨_, _, _, v1, v2, v3, v4, v5, v6, _, same, _, _, bare | given, _⟩
  · exact absurd bare.1 hd
  · rcases given with ⟨_, T, _, its, _, dv, at_, it, rel⟩
    subst same dv
    refine ⟨fun s us ws inn l1 l2 => BindsTo.of_looks fun M => ?_, hrel⟩
    rcases h T v1 v2 v3 v4 v5 v6 us ws its l1 l2 rel.length.symm with ⟨go, b1, b2⟩
    rw [b1]
    exact looks_items inn at_ it (.of_pure b2)
end
theorem all_mk {l : PySem.W.OpenLaw} {w : World} {K : PySem.W.Frag} {h : Heap} {mg : Str → Option Value} {fa : Addr} {f_is_whole f_is_fraction f_shared_divisor f_whole_of f_wholes_of f_show_fraction f_show_way f_check_text f_read_fraction f_read_way f__law_cell_at f__law_well f__law_draw f__law_low f__law_same f__law_great f__law_figures f__law_number f__law_read_fraction f__law_read_way f__law_due f__law_told f__law_spoilt f_law cLaw Pt CE CB CN CU T_CT CT fI_CT cc_CT cda_CT : Addr} (X : K.In h) (G : h.Ns mainGlobals mg) (hfa : mg "law" = some (.ref fa))
    {od_is_whole an_is_whole : Option Addr} {sl_is_whole : Array (Option Value)} {oc_is_whole kV_is_whole dc_is_whole pm_is_whole cd_is_whole ct_is_whole : Value}
    (a_is_whole : PySem.W.nsIn K mainGlobals "is_whole" = some (some (.ref f_is_whole)))
    (l_is_whole : K.lookup f_is_whole = some ⟨oc_is_whole, od_is_whole, .func (PySem.W.fnOf "is_whole" "is_whole" (defArgs s_is_whole) (defBody s_is_whole) (defScope s_is_whole) .none kV_is_whole dc_is_whole pm_is_whole an_is_whole cd_is_whole ct_is_whole), sl_is_whole⟩)
    (c_is_whole : PySem.W.codeIn K cd_is_whole "is_whole" = true)
    (k_is_whole : PySem.W.keepIn K (.ref f_is_whole) = true)
    {od_is_fraction an_is_fraction : Option Addr} {sl_is_fraction : Array (Option Value)} {oc_is_fraction kV_is_fraction dc_is_fraction pm_is_fraction cd_is_fraction ct_is_fraction : Value}
    (a_is_fraction : PySem.W.nsIn K mainGlobals "is_fraction" = some (some (.ref f_is_fraction)))
    (l_is_fraction : K.lookup f_is_fraction = some ⟨oc_is_fraction, od_is_fraction, .func (PySem.W.fnOf "is_fraction" "is_fraction" (defArgs s_is_fraction) (defBody s_is_fraction) (defScope s_is_fraction) .none kV_is_fraction dc_is_fraction pm_is_fraction an_is_fraction cd_is_fraction ct_is_fraction), sl_is_fraction⟩)
    (c_is_fraction : PySem.W.codeIn K cd_is_fraction "is_fraction" = true)
    (k_is_fraction : PySem.W.keepIn K (.ref f_is_fraction) = true)
    {od_shared_divisor an_shared_divisor : Option Addr} {sl_shared_divisor : Array (Option Value)} {oc_shared_divisor kV_shared_divisor dc_shared_divisor pm_shared_divisor cd_shared_divisor ct_shared_divisor : Value}
    (a_shared_divisor : PySem.W.nsIn K mainGlobals "shared_divisor" = some (some (.ref f_shared_divisor)))
    (l_shared_divisor : K.lookup f_shared_divisor = some ⟨oc_shared_divisor, od_shared_divisor, .func (PySem.W.fnOf "shared_divisor" "shared_divisor" (defArgs s_shared_divisor) (defBody s_shared_divisor) (defScope s_shared_divisor) .none kV_shared_divisor dc_shared_divisor pm_shared_divisor an_shared_divisor cd_shared_divisor ct_shared_divisor), sl_shared_divisor⟩)
    (c_shared_divisor : PySem.W.codeIn K cd_shared_divisor "shared_divisor" = true)
    (k_shared_divisor : PySem.W.keepIn K (.ref f_shared_divisor) = true)
    {od_whole_of an_whole_of : Option Addr} {sl_whole_of : Array (Option Value)} {oc_whole_of kV_whole_of dc_whole_of pm_whole_of cd_whole_of ct_whole_of : Value}
    (a_whole_of : PySem.W.nsIn K mainGlobals "whole_of" = some (some (.ref f_whole_of)))
    (l_whole_of : K.lookup f_whole_of = some ⟨oc_whole_of, od_whole_of, .func (PySem.W.fnOf "whole_of" "whole_of" (defArgs s_whole_of) (defBody s_whole_of) (defScope s_whole_of) .none kV_whole_of dc_whole_of pm_whole_of an_whole_of cd_whole_of ct_whole_of), sl_whole_of⟩)
    (c_whole_of : PySem.W.codeIn K cd_whole_of "whole_of" = true)
    (k_whole_of : PySem.W.keepIn K (.ref f_whole_of) = true)
    {od_wholes_of an_wholes_of : Option Addr} {sl_wholes_of : Array (Option Value)} {oc_wholes_of kV_wholes_of dc_wholes_of pm_wholes_of cd_wholes_of ct_wholes_of : Value}
    (a_wholes_of : PySem.W.nsIn K mainGlobals "wholes_of" = some (some (.ref f_wholes_of)))
    (l_wholes_of : K.lookup f_wholes_of = some ⟨oc_wholes_of, od_wholes_of, .func (PySem.W.fnOf "wholes_of" "wholes_of" (defArgs s_wholes_of) (defBody s_wholes_of) (defScope s_wholes_of) .none kV_wholes_of dc_wholes_of pm_wholes_of an_wholes_of cd_wholes_of ct_wholes_of), sl_wholes_of⟩)
    (c_wholes_of : PySem.W.codeIn K cd_wholes_of "wholes_of" = true)
    (k_wholes_of : PySem.W.keepIn K (.ref f_wholes_of) = true)
    {od_show_fraction an_show_fraction : Option Addr} {sl_show_fraction : Array (Option Value)} {oc_show_fraction kV_show_fraction dc_show_fraction pm_show_fraction cd_show_fraction ct_show_fraction : Value}
    (a_show_fraction : PySem.W.nsIn K mainGlobals "show_fraction" = some (some (.ref f_show_fraction)))
    (l_show_fraction : K.lookup f_show_fraction = some ⟨oc_show_fraction, od_show_fraction, .func (PySem.W.fnOf "show_fraction" "show_fraction" (defArgs s_show_fraction) (defBody s_show_fraction) (defScope s_show_fraction) .none kV_show_fraction dc_show_fraction pm_show_fraction an_show_fraction cd_show_fraction ct_show_fraction), sl_show_fraction⟩)
    (c_show_fraction : PySem.W.codeIn K cd_show_fraction "show_fraction" = true)
    (k_show_fraction : PySem.W.keepIn K (.ref f_show_fraction) = true)
    {od_show_way an_show_way : Option Addr} {sl_show_way : Array (Option Value)} {oc_show_way kV_show_way dc_show_way pm_show_way cd_show_way ct_show_way : Value}
    (a_show_way : PySem.W.nsIn K mainGlobals "show_way" = some (some (.ref f_show_way)))
    (l_show_way : K.lookup f_show_way = some ⟨oc_show_way, od_show_way, .func (PySem.W.fnOf "show_way" "show_way" (defArgs s_show_way) (defBody s_show_way) (defScope s_show_way) .none kV_show_way dc_show_way pm_show_way an_show_way cd_show_way ct_show_way), sl_show_way⟩)
    (c_show_way : PySem.W.codeIn K cd_show_way "show_way" = true)
    (k_show_way : PySem.W.keepIn K (.ref f_show_way) = true)
    {od_check_text an_check_text : Option Addr} {sl_check_text : Array (Option Value)} {oc_check_text kV_check_text dc_check_text pm_check_text cd_check_text ct_check_text : Value}
    (a_check_text : PySem.W.nsIn K mainGlobals "check_text" = some (some (.ref f_check_text)))
    (l_check_text : K.lookup f_check_text = some ⟨oc_check_text, od_check_text, .func (PySem.W.fnOf "check_text" "check_text" (defArgs s_check_text) (defBody s_check_text) (defScope s_check_text) .none kV_check_text dc_check_text pm_check_text an_check_text cd_check_text ct_check_text), sl_check_text⟩)
    (c_check_text : PySem.W.codeIn K cd_check_text "check_text" = true)
    (k_check_text : PySem.W.keepIn K (.ref f_check_text) = true)
    {od_read_fraction an_read_fraction : Option Addr} {sl_read_fraction : Array (Option Value)} {oc_read_fraction kV_read_fraction dc_read_fraction pm_read_fraction cd_read_fraction ct_read_fraction : Value}
    (a_read_fraction : PySem.W.nsIn K mainGlobals "read_fraction" = some (some (.ref f_read_fraction)))
    (l_read_fraction : K.lookup f_read_fraction = some ⟨oc_read_fraction, od_read_fraction, .func (PySem.W.fnOf "read_fraction" "read_fraction" (defArgs s_read_fraction) (defBody s_read_fraction) (defScope s_read_fraction) .none kV_read_fraction dc_read_fraction pm_read_fraction an_read_fraction cd_read_fraction ct_read_fraction), sl_read_fraction⟩)
    (c_read_fraction : PySem.W.codeIn K cd_read_fraction "read_fraction" = true)
    (k_read_fraction : PySem.W.keepIn K (.ref f_read_fraction) = true)
    {od_read_way an_read_way : Option Addr} {sl_read_way : Array (Option Value)} {oc_read_way kV_read_way dc_read_way pm_read_way cd_read_way ct_read_way : Value}
    (a_read_way : PySem.W.nsIn K mainGlobals "read_way" = some (some (.ref f_read_way)))
    (l_read_way : K.lookup f_read_way = some ⟨oc_read_way, od_read_way, .func (PySem.W.fnOf "read_way" "read_way" (defArgs s_read_way) (defBody s_read_way) (defScope s_read_way) .none kV_read_way dc_read_way pm_read_way an_read_way cd_read_way ct_read_way), sl_read_way⟩)
    (c_read_way : PySem.W.codeIn K cd_read_way "read_way" = true)
    (k_read_way : PySem.W.keepIn K (.ref f_read_way) = true)
    {od__law_cell_at an__law_cell_at : Option Addr} {sl__law_cell_at : Array (Option Value)} {oc__law_cell_at kV__law_cell_at dc__law_cell_at pm__law_cell_at cd__law_cell_at ct__law_cell_at : Value}
    (a__law_cell_at : PySem.W.nsIn K mainGlobals "_law_cell_at" = some (some (.ref f__law_cell_at)))
    (l__law_cell_at : K.lookup f__law_cell_at = some ⟨oc__law_cell_at, od__law_cell_at, .func (PySem.W.fnOf "_law_cell_at" "_law_cell_at" (defArgs s__law_cell_at) (defBody s__law_cell_at) (defScope s__law_cell_at) .none kV__law_cell_at dc__law_cell_at pm__law_cell_at an__law_cell_at cd__law_cell_at ct__law_cell_at), sl__law_cell_at⟩)
    (c__law_cell_at : PySem.W.codeIn K cd__law_cell_at "_law_cell_at" = true)
    (k__law_cell_at : PySem.W.keepIn K (.ref f__law_cell_at) = true)
    {od__law_well an__law_well : Option Addr} {sl__law_well : Array (Option Value)} {oc__law_well kV__law_well dc__law_well pm__law_well cd__law_well ct__law_well : Value}
    (a__law_well : PySem.W.nsIn K mainGlobals "_law_well" = some (some (.ref f__law_well)))
    (l__law_well : K.lookup f__law_well = some ⟨oc__law_well, od__law_well, .func (PySem.W.fnOf "_law_well" "_law_well" (defArgs s__law_well) (defBody s__law_well) (defScope s__law_well) .none kV__law_well dc__law_well pm__law_well an__law_well cd__law_well ct__law_well), sl__law_well⟩)
    (c__law_well : PySem.W.codeIn K cd__law_well "_law_well" = true)
    (k__law_well : PySem.W.keepIn K (.ref f__law_well) = true)
    {od__law_draw an__law_draw : Option Addr} {sl__law_draw : Array (Option Value)} {oc__law_draw kV__law_draw dc__law_draw pm__law_draw cd__law_draw ct__law_draw : Value}
    (a__law_draw : PySem.W.nsIn K mainGlobals "_law_draw" = some (some (.ref f__law_draw)))
    (l__law_draw : K.lookup f__law_draw = some ⟨oc__law_draw, od__law_draw, .func (PySem.W.fnOf "_law_draw" "_law_draw" (defArgs s__law_draw) (defBody s__law_draw) (defScope s__law_draw) .none kV__law_draw dc__law_draw pm__law_draw an__law_draw cd__law_draw ct__law_draw), sl__law_draw⟩)
    (c__law_draw : PySem.W.codeIn K cd__law_draw "_law_draw" = true)
    (k__law_draw : PySem.W.keepIn K (.ref f__law_draw) = true)
    {od__law_low an__law_low : Option Addr} {sl__law_low : Array (Option Value)} {oc__law_low kV__law_low dc__law_low pm__law_low cd__law_low ct__law_low : Value}
    (a__law_low : PySem.W.nsIn K mainGlobals "_law_low" = some (some (.ref f__law_low)))
    (l__law_low : K.lookup f__law_low = some ⟨oc__law_low, od__law_low, .func (PySem.W.fnOf "_law_low" "_law_low" (defArgs s__law_low) (defBody s__law_low) (defScope s__law_low) .none kV__law_low dc__law_low pm__law_low an__law_low cd__law_low ct__law_low), sl__law_low⟩)
    (c__law_low : PySem.W.codeIn K cd__law_low "_law_low" = true)
    (k__law_low : PySem.W.keepIn K (.ref f__law_low) = true)
    {od__law_same an__law_same : Option Addr} {sl__law_same : Array (Option Value)} {oc__law_same kV__law_same dc__law_same pm__law_same cd__law_same ct__law_same : Value}
    (a__law_same : PySem.W.nsIn K mainGlobals "_law_same" = some (some (.ref f__law_same)))
    (l__law_same : K.lookup f__law_same = some ⟨oc__law_same, od__law_same, .func (PySem.W.fnOf "_law_same" "_law_same" (defArgs s__law_same) (defBody s__law_same) (defScope s__law_same) .none kV__law_same dc__law_same pm__law_same an__law_same cd__law_same ct__law_same), sl__law_same⟩)
    (c__law_same : PySem.W.codeIn K cd__law_same "_law_same" = true)
    (k__law_same : PySem.W.keepIn K (.ref f__law_same) = true)
    {od__law_great an__law_great : Option Addr} {sl__law_great : Array (Option Value)} {oc__law_great kV__law_great dc__law_great pm__law_great cd__law_great ct__law_great : Value}
    (a__law_great : PySem.W.nsIn K mainGlobals "_law_great" = some (some (.ref f__law_great)))
    (l__law_great : K.lookup f__law_great = some ⟨oc__law_great, od__law_great, .func (PySem.W.fnOf "_law_great" "_law_great" (defArgs s__law_great) (defBody s__law_great) (defScope s__law_great) .none kV__law_great dc__law_great pm__law_great an__law_great cd__law_great ct__law_great), sl__law_great⟩)
    (c__law_great : PySem.W.codeIn K cd__law_great "_law_great" = true)
    (k__law_great : PySem.W.keepIn K (.ref f__law_great) = true)
    {od__law_figures an__law_figures : Option Addr} {sl__law_figures : Array (Option Value)} {oc__law_figures kV__law_figures dc__law_figures pm__law_figures cd__law_figures ct__law_figures : Value}
    (a__law_figures : PySem.W.nsIn K mainGlobals "_law_figures" = some (some (.ref f__law_figures)))
    (l__law_figures : K.lookup f__law_figures = some ⟨oc__law_figures, od__law_figures, .func (PySem.W.fnOf "_law_figures" "_law_figures" (defArgs s__law_figures) (defBody s__law_figures) (defScope s__law_figures) .none kV__law_figures dc__law_figures pm__law_figures an__law_figures cd__law_figures ct__law_figures), sl__law_figures⟩)
    (c__law_figures : PySem.W.codeIn K cd__law_figures "_law_figures" = true)
    (k__law_figures : PySem.W.keepIn K (.ref f__law_figures) = true)
    {od__law_number an__law_number : Option Addr} {sl__law_number : Array (Option Value)} {oc__law_number kV__law_number dc__law_number pm__law_number cd__law_number ct__law_number : Value}
    (a__law_number : PySem.W.nsIn K mainGlobals "_law_number" = some (some (.ref f__law_number)))
    (l__law_number : K.lookup f__law_number = some ⟨oc__law_number, od__law_number, .func (PySem.W.fnOf "_law_number" "_law_number" (defArgs s__law_number) (defBody s__law_number) (defScope s__law_number) .none kV__law_number dc__law_number pm__law_number an__law_number cd__law_number ct__law_number), sl__law_number⟩)
    (c__law_number : PySem.W.codeIn K cd__law_number "_law_number" = true)
    (k__law_number : PySem.W.keepIn K (.ref f__law_number) = true)
    {od__law_read_fraction an__law_read_fraction : Option Addr} {sl__law_read_fraction : Array (Option Value)} {oc__law_read_fraction kV__law_read_fraction dc__law_read_fraction pm__law_read_fraction cd__law_read_fraction ct__law_read_fraction : Value}
    (a__law_read_fraction : PySem.W.nsIn K mainGlobals "_law_read_fraction" = some (some (.ref f__law_read_fraction)))
    (l__law_read_fraction : K.lookup f__law_read_fraction = some ⟨oc__law_read_fraction, od__law_read_fraction, .func (PySem.W.fnOf "_law_read_fraction" "_law_read_fraction" (defArgs s__law_read_fraction) (defBody s__law_read_fraction) (defScope s__law_read_fraction) .none kV__law_read_fraction dc__law_read_fraction pm__law_read_fraction an__law_read_fraction cd__law_read_fraction ct__law_read_fraction), sl__law_read_fraction⟩)
    (c__law_read_fraction : PySem.W.codeIn K cd__law_read_fraction "_law_read_fraction" = true)
    (k__law_read_fraction : PySem.W.keepIn K (.ref f__law_read_fraction) = true)
    {od__law_read_way an__law_read_way : Option Addr} {sl__law_read_way : Array (Option Value)} {oc__law_read_way kV__law_read_way dc__law_read_way pm__law_read_way cd__law_read_way ct__law_read_way : Value}
    (a__law_read_way : PySem.W.nsIn K mainGlobals "_law_read_way" = some (some (.ref f__law_read_way)))
    (l__law_read_way : K.lookup f__law_read_way = some ⟨oc__law_read_way, od__law_read_way, .func (PySem.W.fnOf "_law_read_way" "_law_read_way" (defArgs s__law_read_way) (defBody s__law_read_way) (defScope s__law_read_way) .none kV__law_read_way dc__law_read_way pm__law_read_way an__law_read_way cd__law_read_way ct__law_read_way), sl__law_read_way⟩)
    (c__law_read_way : PySem.W.codeIn K cd__law_read_way "_law_read_way" = true)
    (k__law_read_way : PySem.W.keepIn K (.ref f__law_read_way) = true)
    {od__law_due an__law_due : Option Addr} {sl__law_due : Array (Option Value)} {oc__law_due kV__law_due dc__law_due pm__law_due cd__law_due ct__law_due : Value}
    (a__law_due : PySem.W.nsIn K mainGlobals "_law_due" = some (some (.ref f__law_due)))
    (l__law_due : K.lookup f__law_due = some ⟨oc__law_due, od__law_due, .func (PySem.W.fnOf "_law_due" "_law_due" (defArgs s__law_due) (defBody s__law_due) (defScope s__law_due) .none kV__law_due dc__law_due pm__law_due an__law_due cd__law_due ct__law_due), sl__law_due⟩)
    (c__law_due : PySem.W.codeIn K cd__law_due "_law_due" = true)
    (k__law_due : PySem.W.keepIn K (.ref f__law_due) = true)
    {od__law_told an__law_told : Option Addr} {sl__law_told : Array (Option Value)} {oc__law_told kV__law_told dc__law_told pm__law_told cd__law_told ct__law_told : Value}
    (a__law_told : PySem.W.nsIn K mainGlobals "_law_told" = some (some (.ref f__law_told)))
    (l__law_told : K.lookup f__law_told = some ⟨oc__law_told, od__law_told, .func (PySem.W.fnOf "_law_told" "_law_told" (defArgs s__law_told) (defBody s__law_told) (defScope s__law_told) .none kV__law_told dc__law_told pm__law_told an__law_told cd__law_told ct__law_told), sl__law_told⟩)
    (c__law_told : PySem.W.codeIn K cd__law_told "_law_told" = true)
    (k__law_told : PySem.W.keepIn K (.ref f__law_told) = true)
    {od__law_spoilt an__law_spoilt : Option Addr} {sl__law_spoilt : Array (Option Value)} {oc__law_spoilt kV__law_spoilt dc__law_spoilt pm__law_spoilt cd__law_spoilt ct__law_spoilt : Value}
    (a__law_spoilt : PySem.W.nsIn K mainGlobals "_law_spoilt" = some (some (.ref f__law_spoilt)))
    (l__law_spoilt : K.lookup f__law_spoilt = some ⟨oc__law_spoilt, od__law_spoilt, .func (PySem.W.fnOf "_law_spoilt" "_law_spoilt" (defArgs s__law_spoilt) (defBody s__law_spoilt) (defScope s__law_spoilt) .none kV__law_spoilt dc__law_spoilt pm__law_spoilt an__law_spoilt cd__law_spoilt ct__law_spoilt), sl__law_spoilt⟩)
    (c__law_spoilt : PySem.W.codeIn K cd__law_spoilt "_law_spoilt" = true)
    (k__law_spoilt : PySem.W.keepIn K (.ref f__law_spoilt) = true)
    {od_law an_law cdd_law : Option Addr} {sl_law ccs_law : Array (Option Value)} {oc_law kV_law dc_law pm_law ct_law ccl_law : Value} {vs_law : Array Value}
    (a_law : PySem.W.nsIn K mainGlobals "law" = some (some (.ref f_law)))
    (l_law : K.lookup f_law = some ⟨oc_law, od_law, .func (PySem.W.fnOf "law" "law" (defArgs s_law) (defBody s_law) (defScope s_law) .none kV_law dc_law pm_law an_law (.ref cLaw) ct_law), sl_law⟩)
    (c_law : PySem.W.codeIn K (.ref cLaw) "law" = true)
    (k_law : PySem.W.keepIn K (.ref f_law) = true)
    (lc_law : K.lookup cLaw = some ⟨ccl_law, cdd_law, .fields vs_law, ccs_law⟩)
    (v11_law : vs_law[11]? = some (.ref Pt))
    (hd_law : PySem.W.codeHdIn K cLaw Pt = true)
    (nT_law : K.lookup Pt = none)
    (hT_law : h.get? Pt = some { cls := .none, data := .fields #[] })
    {tk_FIGURES : Tok}
    (g_FIGURES : PySem.W.nsIn K mainGlobals "FIGURES" = some (some (.str "0123456789" tk_FIGURES)))
    {tk_MOST_FIGURES : Tok}
    (g_MOST_FIGURES : PySem.W.nsIn K mainGlobals "MOST_FIGURES" = some (some (.int 400 tk_MOST_FIGURES)))
    (aC_CE : PySem.W.nsIn K mainGlobals "EchoError" = some (some (.ref CE)))
    (aC_CB : PySem.W.nsIn K mainGlobals "BadForm" = some (some (.ref CB)))
    (aC_CN : PySem.W.nsIn K mainGlobals "NoFraction" = some (some (.ref CN)))
    (aC_CU : PySem.W.nsIn K mainGlobals "Unfit" = some (some (.ref CU)))
    (aC_CT : PySem.W.nsIn K mainGlobals "NoText" = some (some (.ref CT)))
    (ei_CT : PySem.W.excInitIn K CT PySem.ErrX.bmA "ArithmeticError.__new__" = true)
    (eo_CT : PySem.W.excOver K CT PySem.ErrX.bmA = true)
    (sa_CT : PySem.W.findIn K (.ref CT) "__setattr__" = some (some (.builtin "object.__setattr__")))
    (ga_CT : PySem.W.findIn K (.ref CT) "__getattribute__" = some (some (.builtin "BaseException.__getattribute__")))
    (gg_CT : PySem.W.findIn K (.ref CT) "__getattr__" = some none)
    (kC_CT : PySem.W.keepIn K (.ref CT) = true)
    (ex_CT : PySem.W.subIn K (.ref CT) (.type "BaseException") = some true)
    (ty_CT : PySem.W.typeIn K (.ref CT) = some (.type "type"))
    (hd_CT : PySem.W.hasDictIn K CT = true)
    (ha_CT : PySem.W.findIn K (.ref CT) "__class__" = some (some (.builtin "object.__class__")))
    (hn_CT : PySem.W.specialIn K (.builtin "object.__class__") "__get__" = some (some (.builtin "getset_descriptor.__get__")))
    (ht_CT : PySem.W.takesIn K (.builtin "object.__class__") = some true)
    (hm_CT : PySem.W.mroIn K CT (.type "object") = some true)
    (iC_CT : PySem.W.findIn K (.ref CT) "__init__" = some (some (.ref fI_CT)))
    (tC_CT : PySem.W.typeIn K (.ref fI_CT) = some (.type "function"))
    {od_CT an_CT cdd_CT cld_CT : Option Addr} {sl_CT ccs_CT csl_CT : Array (Option Value)} {oc_CT kV_CT dc_CT pm_CT ct_CT ccl_CT cl_CT : Value} {vs_CT : Array Value} {file_CT : Str} {tf_CT : Tok}
    (l_CT : K.lookup fI_CT = some ⟨oc_CT, od_CT, .func (PySem.W.ksFn "__init__" "NoText.__init__" (defArgs s_NoText___init__) (defBody s_NoText___init__) (defScope s_NoText___init__) (.ref T_CT) kV_CT dc_CT pm_CT an_CT (.ref cda_CT) ct_CT cc_CT), sl_CT⟩)
    (cd_CT : PySem.W.codeIn K (.ref cda_CT) "NoText.__init__" = true)
    (lc_CT : K.lookup cda_CT = some ⟨ccl_CT, cdd_CT, .fields vs_CT, ccs_CT⟩)
    (v2_CT : vs_CT[2]? = some (.str file_CT tf_CT))
    (fl_CT : ((l.prog.main.file : Str) == file_CT) = true)
    (ce_CT : K.lookup cc_CT = some ⟨cl_CT, cld_CT, .cell (some (.ref CT)), csl_CT⟩)
    (nf_CT : PySem.W.findIn K (.ref CT) "line" = some none)
    (su_CT : PySem.W.ks_superIn K CT CT "__init__" = some (some (.builtin "ArithmeticError.__init__")))
    (sA_CT : PySem.W.subIn K (.ref CT) (.type "ArithmeticError") = some true)
    (sf_CT : PySem.W.mroIn K CT (.ref CT) = some true)
    (th_CT : PySem.W.nsIn K cStatics "thirdparty.any" = some none)
    (ms_CT : PySem.W.nsIn K mainGlobals "super" = some none)
    (tp_CT : (l.prog.main.scope.names.lookup ("super" : Str)).isSome = false)
    {to_CT : Value} {td_CT : Option Addr} {its_CT : Array Value} {tn_CT : Nat} {ts_CT : Array (Option Value)}
    (t_CT : K.lookup T_CT = some ⟨to_CT, td_CT, .seq its_CT tn_CT, ts_CT⟩)
    (z_CT : its_CT.size = 1)
    (xm_CT : PySem.W.exmOne K (.ref CT) (.ref CE) = some true)
    (ki_CT_CT : PySem.W.kitOne K (.ref CT) (.ref CT) = some true)
    (ki_CT_CN : PySem.W.kitOne K (.ref CT) (.ref CN) = some false)
    (ki_CT_CB : PySem.W.kitOne K (.ref CT) (.ref CB) = some false)
    (ki_CT_CU : PySem.W.kitOne K (.ref CT) (.ref CU) = some false)
    (z_isinstance : PySem.W.nsIn K mainGlobals "isinstance" = some none)
    (z_int : PySem.W.nsIn K mainGlobals "int" = some none)
    (z_bool : PySem.W.nsIn K mainGlobals "bool" = some none)
    (z_tuple : PySem.W.nsIn K mainGlobals "tuple" = some none)
    (z_len : PySem.W.nsIn K mainGlobals "len" = some none)
    (z_abs : PySem.W.nsIn K mainGlobals "abs" = some none)
    (z_all : PySem.W.nsIn K mainGlobals "all" = some none)
    (z_str : PySem.W.nsIn K mainGlobals "str" = some none)
    (z_list : PySem.W.nsIn K mainGlobals "list" = some none)
    (z_zip : PySem.W.nsIn K mainGlobals "zip" = some none)
    (z_range : PySem.W.nsIn K mainGlobals "range" = some none)
    (z_max : PySem.W.nsIn K mainGlobals "max" = some none) :
    LamX.LawAtS l w K CX0 8 63 "_law_script" mg fa h := by
  have F_is_whole := fun_mk (st := s_is_whole) l_is_whole c_is_whole k_is_whole
  have b_is_whole := F_is_whole.binds (ps := ["thing"]) fun _ _ _ _ _ _ us hl => match us, hl with | [_], _ => rfl
  have F_is_fraction := fun_mk (st := s_is_fraction) l_is_fraction c_is_fraction k_is_fraction
  have b_is_fraction := F_is_fraction.binds (ps := ["thing"]) fun _ _ _ _ _ _ us hl => match us, hl with | [_], _ => rfl
  have F_shared_divisor := fun_mk (st := s_shared_divisor) l_shared_divisor c_shared_divisor k_shared_divisor
  have b_shared_divisor := F_shared_divisor.binds (ps := ["top", "bottom"]) fun _ _ _ _ _ _ us hl => match us, hl with | [_, _], _ => rfl
  have F_whole_of := fun_mk (st := s_whole_of) l_whole_of c_whole_of k_whole_of
  have b_whole_of := F_whole_of.binds (ps := ["text"]) fun _ _ _ _ _ _ us hl => match us, hl with | [_], _ => rfl
  have F_wholes_of := fun_mk (st := s_wholes_of) l_wholes_of c_wholes_of k_wholes_of
  have b_wholes_of := F_wholes_of.binds (ps := ["texts"]) fun _ _ _ _ _ _ us hl => match us, hl with | [_], _ => rfl
  have F_show_fraction := fun_mk (st := s_show_fraction) l_show_fraction c_show_fraction k_show_fraction
  have b_show_fraction := F_show_fraction.binds (ps := ["one"]) fun _ _ _ _ _ _ us hl => match us, hl with | [_], _ => rfl
  have F_show_way := fun_mk (st := s_show_way) l_show_way c_show_way k_show_way
  have b_show_way := F_show_way.binds (ps := ["words"]) fun _ _ _ _ _ _ us hl => match us, hl with | [_], _ => rfl
  have F_check_text := fun_mk (st := s_check_text) l_check_text c_check_text k_check_text
  have b_check_text := F_check_text.binds (ps := ["thing"]) fun _ _ _ _ _ _ us hl => match us, hl with | [_], _ => rfl
  have F_read_fraction := fun_mk (st := s_read_fraction) l_read_fraction c_read_fraction k_read_fraction
  have b_read_fraction := F_read_fraction.binds (ps := ["text"]) fun _ _ _ _ _ _ us hl => match us, hl with | [_], _ => rfl
  have F_read_way := fun_mk (st := s_read_way) l_read_way c_read_way k_read_way
  have b_read_way := F_read_way.binds (ps := ["text"]) fun _ _ _ _ _ _ us hl => match us, hl with | [_], _ => rfl
  have F__law_cell_at := fun_mk (st := s__law_cell_at) l__law_cell_at c__law_cell_at k__law_cell_at
  have b__law_cell_at := F__law_cell_at.binds (ps := ["_law_script", "_law_k"]) fun _ _ _ _ _ _ us hl => match us, hl with | [_, _], _ => rfl
  have F__law_well := fun_mk (st := s__law_well) l__law_well c__law_well k__law_well
  have b__law_well := F__law_well.binds (ps := ["_law_cell"]) fun _ _ _ _ _ _ us hl => match us, hl with | [_], _ => rfl
  have F__law_draw := fun_mk (st := s__law_draw) l__law_draw c__law_draw k__law_draw
  have b__law_draw := F__law_draw.binds (ps := ["_law_well_here", "_law_many"]) fun _ _ _ _ _ _ us hl => match us, hl with | [_, _], _ => rfl
  have F__law_low := fun_mk (st := s__law_low) l__law_low c__law_low k__law_low
  have b__law_low := F__law_low.binds (ps := ["_law_top", "_law_bottom"]) fun _ _ _ _ _ _ us hl => match us, hl with | [_, _], _ => rfl
  have F__law_same := fun_mk (st := s__law_same) l__law_same c__law_same k__law_same
  have b__law_same := F__law_same.binds (ps := ["_law_found", "_law_due_here"]) fun _ _ _ _ _ _ us hl => match us, hl with | [_, _], _ => rfl
  have F__law_great := fun_mk (st := s__law_great) l__law_great c__law_great k__law_great
  have b__law_great := F__law_great.binds (ps := ["_law_well_here"]) fun _ _ _ _ _ _ us hl => match us, hl with | [_], _ => rfl
  have F__law_figures := fun_mk (st := s__law_figures) l__law_figures c__law_figures k__law_figures
  have b__law_figures := F__law_figures.binds (ps := ["_law_word"]) fun _ _ _ _ _ _ us hl => match us, hl with | [_], _ => rfl
  have F__law_number := fun_mk (st := s__law_number) l__law_number c__law_number k__law_number
  have b__law_number := F__law_number.binds (ps := ["_law_word"]) fun _ _ _ _ _ _ us hl => match us, hl with | [_], _ => rfl
  have F__law_read_fraction := fun_mk (st := s__law_read_fraction) l__law_read_fraction c__law_read_fraction k__law_read_fraction
  have b__law_read_fraction := F__law_read_fraction.binds (ps := ["_law_line_text"]) fun _ _ _ _ _ _ us hl => match us, hl with | [_], _ => rfl
  have F__law_read_way := fun_mk (st := s__law_read_way) l__law_read_way c__law_read_way k__law_read_way
  have b__law_read_way := F__law_read_way.binds (ps := ["_law_line_text"]) fun _ _ _ _ _ _ us hl => match us, hl with | [_], _ => rfl
  have F__law_due := fun_mk (st := s__law_due) l__law_due c__law_due k__law_due
  have b__law_due := F__law_due.binds (ps := ["_law_thing"]) fun _ _ _ _ _ _ us hl => match us, hl with | [_], _ => rfl
  have F__law_told := fun_mk (st := s__law_told) l__law_told c__law_told k__law_told
  have b__law_told := F__law_told.binds (ps := ["_law_deed"]) fun _ _ _ _ _ _ us hl => match us, hl with | [_], _ => rfl
  have F__law_spoilt := fun_mk (st := s__law_spoilt) l__law_spoilt c__law_spoilt k__law_spoilt
  have b__law_spoilt := F__law_spoilt.binds (ps := ["_law_line_text", "_law_well_here"]) fun _ _ _ _ _ _ us hl => match us, hl with | [_, _], _ => rfl
  have F_law : FunC K "law" s_law f_law (PySem.W.fnOf "law" "law" (defArgs s_law) (defBody s_law) (defScope s_law) .none kV_law dc_law pm_law an_law (.ref cLaw) ct_law) cLaw := ⟨_, _, _, _, _, _, _, _, rfl, l_law, c_law⟩
  have kb_rw := Fun.kbn (n := 0) (ks := ["text"]) (ps := ["text"]) F_read_way (g := fun us ws => us ++ ws) (gV := fun vs zs => vs ++ zs) (fun r s => Vals.append r s) fun _ _ _ _ _ _ us ws h1 h2 => match us, ws, h1, h2 with | [], [_], _, _ => rfl
  have EC_CT : PySem.ErrX.ErrC K mg "NoText" CT := ⟨PySem.W.mg_of X G aC_CT, ei_CT, eo_CT, sa_CT, ga_CT, gg_CT, kC_CT, ex_CT, ty_CT, hd_CT⟩
  have IC_CT : PySem.ErrX.IniC l.prog K mg CT fI_CT cc_CT "NoText.__init__" "line" s_NoText___init__ (.ref T_CT) := ⟨iC_CT, tC_CT, ⟨_, _, _, _, _, _, _, _, _, l_CT, cd_CT, _, _, _, _, _, _, lc_CT, v2_CT, fl_CT⟩, ⟨_, _, _, ce_CT⟩, nf_CT, su_CT, sA_CT, sf_CT, th_CT, PySem.W.mg_none_of X G ms_CT, tp_CT⟩
  have XC_CT : ExcC K CT := ⟨ga_CT, gg_CT, ex_CT, hd_CT, ha_CT, hn_CT, ht_CT, hm_CT⟩
  have z : Zs mg := ⟨PySem.W.mg_none_of X G z_isinstance, PySem.W.mg_none_of X G z_int, PySem.W.mg_none_of X G z_bool, PySem.W.mg_none_of X G z_tuple, PySem.W.mg_none_of X G z_len, PySem.W.mg_none_of X G z_abs, PySem.W.mg_none_of X G z_all, PySem.W.mg_none_of X G z_str, PySem.W.mg_none_of X G z_list, PySem.W.mg_none_of X G z_zip, PySem.W.mg_none_of X G z_range, PySem.W.mg_none_of X G z_max⟩
  have e := hfa.symm.trans (PySem.W.mg_of X G a_law)
  cases e
  have one : ∀ {p : Addr × Addr}, p ∈ [(cLaw, Pt)] → p = (cLaw, Pt) := fun h => List.mem_singleton.mp h
  refine ⟨PySem.W.fnOf "law" "law" (defArgs s_law) (defBody s_law) (defScope s_law) .none kV_law dc_law pm_law an_law (.ref cLaw) ct_law, [(cLaw, Pt)], spLaw K Pt, fun p hp => by rw [one hp]; exact hT_law, fun p hp => by rw [one hp]; exact nT_law, fun p hp => by rw [one hp]; exact PySem.W.codeHd_of_K X hd_law, fun s v => .of_eq rfl, fun H a ns hl _ hH hS => ⟨a, ns, rfl, hS, hl, hH _ List.mem_cons_self, fun _ => rfl⟩, fun base _ _ TBs => ?_⟩
  have TB := TBs _ List.mem_cons_self
  have c_is_whole : Cal l.prog w K mg base 1 "is_whole" ["thing"] _ := ⟨f_is_whole, _, PySem.W.mg_of X G a_is_whole, k_is_whole, b_is_whole, ok_is_whole (k := 0) F_is_whole z⟩
  have c_shared_divisor : Cal l.prog w K mg base 1 "shared_divisor" ["top", "bottom"] _ := ⟨f_shared_divisor, _, PySem.W.mg_of X G a_shared_divisor, k_shared_divisor, b_shared_divisor, ok_shared_divisor (k := 0) F_shared_divisor z⟩
  have c_is_fraction : Cal l.prog w K mg base 2 "is_fraction" ["thing"] _ := ⟨f_is_fraction, _, PySem.W.mg_of X G a_is_fraction, k_is_fraction, b_is_fraction, ok_is_fraction F_is_fraction z c_is_whole c_shared_divisor⟩
  have c_whole_of : Cal l.prog w K mg base 1 "whole_of" ["text"] _ := ⟨f_whole_of, _, PySem.W.mg_of X G a_whole_of, k_whole_of, b_whole_of, ok_whole_of (k := 0) F_whole_of z (PySem.W.mg_of X G g_FIGURES) (PySem.W.mg_of X G g_MOST_FIGURES)⟩
  have c_wholes_of : Cal l.prog w K mg base 2 "wholes_of" ["texts"] _ := ⟨f_wholes_of, _, PySem.W.mg_of X G a_wholes_of, k_wholes_of, b_wholes_of, ok_wholes_of F_wholes_of c_whole_of⟩
  have c_show_fraction : Cal l.prog w K mg base 1 "show_fraction" ["one"] _ := ⟨f_show_fraction, _, PySem.W.mg_of X G a_show_fraction, k_show_fraction, b_show_fraction, ok_show_fraction (k := 0) F_show_fraction⟩
  have c_show_way : Cal l.prog w K mg base 1 "show_way" ["words"] _ := ⟨f_show_way, _, PySem.W.mg_of X G a_show_way, k_show_way, b_show_way, ok_show_way (k := 0) F_show_way⟩
  have c_show_wayT : Cal l.prog w K mg base 1 "show_way" ["words"] _ := ⟨f_show_way, _, PySem.W.mg_of X G a_show_way, k_show_way, b_show_way, ok_show_wayT (k := 0) F_show_way⟩
  have IO := notext_ini (w := w) t_CT z_CT EC_CT IC_CT
  have c_check_text : CalX l.prog w K mg base 1 "check_text" ["thing"] [] _ := ⟨f_check_text, _, _, PySem.W.mg_of X G a_check_text, k_check_text, .nil, b_check_text, ok_check_text (k := 0) EC_CT IO F_check_text z⟩
  have c_read_way : CalX l.prog w K mg base 3 "read_way" ["text"] [] _ := ⟨f_read_way, _, _, PySem.W.mg_of X G a_read_way, k_read_way, .nil, b_read_way, ok_read_way EC_CT IO F_read_way z c_wholes_of c_check_text⟩
  have c_read_fraction : CalX l.prog w K mg base 3 "read_fraction" ["text"] [] _ := ⟨f_read_fraction, _, _, PySem.W.mg_of X G a_read_fraction, k_read_fraction, .nil, b_read_fraction, ok_read_fraction EC_CT IO F_read_fraction z c_wholes_of c_is_fraction c_check_text⟩
  have c_rwk : CalXK l.prog w K mg base 3 "read_way" ["text"] 0 ["text"] _ _ := ⟨f_read_way, _, _, PySem.W.mg_of X G a_read_way, k_read_way, kb_rw, ok_read_way EC_CT IO F_read_way z c_wholes_of c_check_text⟩
  have XX : Errs K mg CE CT CN CB CU := ⟨PySem.W.mg_of X G aC_CE, PySem.W.mg_of X G aC_CT, PySem.W.mg_of X G aC_CN, PySem.W.mg_of X G aC_CB, PySem.W.mg_of X G aC_CU, XC_CT, nf_CT, xm_CT, ki_CT_CT, ki_CT_CN, ki_CT_CB, ki_CT_CU⟩
  have c__law_cell_at : Cal l.prog w K mg base 1 "_law_cell_at" ["_law_script", "_law_k"] _ := ⟨f__law_cell_at, _, PySem.W.mg_of X G a__law_cell_at, k__law_cell_at, b__law_cell_at, ok_cell (k := 0) F__law_cell_at z.len⟩
  have c__law_well : Cal l.prog w K mg base 1 "_law_well" ["_law_cell"] _ := ⟨f__law_well, _, PySem.W.mg_of X G a__law_well, k__law_well, b__law_well, ok_well (k := 0) F__law_well z.int⟩
  have c__law_draw : Cal l.prog w K mg base 1 "_law_draw" ["_law_well_here", "_law_many"] _ := ⟨f__law_draw, _, PySem.W.mg_of X G a__law_draw, k__law_draw, b__law_draw, ok_draw (k := 0) F__law_draw⟩
  have c__law_low : Cal l.prog w K mg base 1 "_law_low" ["_law_top", "_law_bottom"] _ := ⟨f__law_low, _, PySem.W.mg_of X G a__law_low, k__law_low, b__law_low, ok__law_low (k := 0) F__law_low z⟩
  have c__law_great : Cal l.prog w K mg base 2 "_law_great" ["_law_well_here"] _ := ⟨f__law_great, _, PySem.W.mg_of X G a__law_great, k__law_great, b__law_great, ok__law_great F__law_great z c__law_draw⟩
  have c__law_figures : Cal l.prog w K mg base 1 "_law_figures" ["_law_word"] _ := ⟨f__law_figures, _, PySem.W.mg_of X G a__law_figures, k__law_figures, b__law_figures, ok__law_figures (k := 0) F__law_figures z⟩
  have c__law_number : Cal l.prog w K mg base 2 "_law_number" ["_law_word"] _ := ⟨f__law_number, _, PySem.W.mg_of X G a__law_number, k__law_number, b__law_number, ok__law_number F__law_number c__law_figures⟩
  have c__law_read_fraction : Cal l.prog w K mg base 3 "_law_read_fraction" ["_law_line_text"] _ := ⟨f__law_read_fraction, _, PySem.W.mg_of X G a__law_read_fraction, k__law_read_fraction, b__law_read_fraction, ok__law_read_fraction F__law_read_fraction z c__law_figures c__law_number c__law_low⟩
  have c__law_read_way : Cal l.prog w K mg base 3 "_law_read_way" ["_law_line_text"] _ := ⟨f__law_read_way, _, PySem.W.mg_of X G a__law_read_way, k__law_read_way, b__law_read_way, ok__law_read_way F__law_read_way z c__law_number⟩
  have c__law_due : Cal l.prog w K mg base 1 "_law_due" ["_law_thing"] _ := ⟨f__law_due, _, PySem.W.mg_of X G a__law_due, k__law_due, b__law_due, ok__law_due (k := 0) F__law_due⟩
  have c__law_spoilt : Cal l.prog w K mg base 2 "_law_spoilt" ["_law_line_text", "_law_well_here"] _ := ⟨f__law_spoilt, _, PySem.W.mg_of X G a__law_spoilt, k__law_spoilt, b__law_spoilt, ok__law_spoilt F__law_spoilt z c__law_draw⟩
  have c_same0 : Cal l.prog w K mg base 1 "_law_same" ["_law_found", "_law_due_here"] (spSameN 0) := ⟨f__law_same, _, PySem.W.mg_of X G a__law_same, k__law_same, b__law_same, ok_sameN (k := 0) F__law_same⟩
  have c_same1 : Cal l.prog w K mg base 2 "_law_same" ["_law_found", "_law_due_here"] (spSameN 1) := ⟨f__law_same, _, PySem.W.mg_of X G a__law_same, k__law_same, b__law_same, ok_same F__law_same z c_same0⟩
  have c_same2 : Cal l.prog w K mg base 3 "_law_same" ["_law_found", "_law_due_here"] (spSameN 2) := ⟨f__law_same, _, PySem.W.mg_of X G a__law_same, k__law_same, b__law_same, ok_same F__law_same z c_same1⟩
  have c_same3 : Cal l.prog w K mg base 4 "_law_same" ["_law_found", "_law_due_here"] (spSameN 3) := ⟨f__law_same, _, PySem.W.mg_of X G a__law_same, k__law_same, b__law_same, ok_same F__law_same z c_same2⟩
  exact ok_law F_law z XX EC_CT TB F__law_told (PySem.W.mg_of X G a__law_told) b__law_told c__law_cell_at c__law_well c__law_draw c__law_low c__law_great c_show_fraction c_show_way c_show_wayT c_same3 c__law_spoilt c__law_due c__law_read_fraction c__law_read_way c_read_fraction c_read_way c_rwk

end E1

open PySem PySem.W PyProof.Rows
set_option maxRecDepth 100000 in
set_option maxHeartbeats 0 in
theorem PySem.Challenge.cw_echobound_k90_numbers_and_ways_as_texts_holds : PySem.Challenge.rw_echobound_k90_numbers_and_ways_as_texts.Holds := by
  w_on; o_law; km_head; (case hw => w_witness2)
  k_fill
  refine LamX.walk_ofTs (l := PySem.Challenge.rw_echobound_k90_numbers_and_ways_as_texts) (n := 63) (k := 8) (x := "_law_script") (CX := fun _ => L2.CX0) rfl (by decide) rfl ⟨rfl, by decide, by decide⟩ (fun w h Y => PySem.W.km_in_of Y) ?F (fun _ _ _ _ _ h => h)
  case F =>
    intro w mg fa h Y KX G hmg
    refine' E1.all_mk KX G hmg ?a_is_whole ?l_is_whole ?c_is_whole ?k_is_whole ?a_is_fraction ?l_is_fraction ?c_is_fraction ?k_is_fraction ?a_shared_divisor ?l_shared_divisor ?c_shared_divisor ?k_shared_divisor ?a_whole_of ?l_whole_of ?c_whole_of ?k_whole_of ?a_wholes_of ?l_wholes_of ?c_wholes_of ?k_wholes_of ?a_show_fraction ?l_show_fraction ?c_show_fraction ?k_show_fraction ?a_show_way ?l_show_way ?c_show_way ?k_show_way ?a_check_text ?l_check_text ?c_check_text ?k_check_text ?a_read_fraction ?l_read_fraction ?c_read_fraction ?k_read_fraction ?a_read_way ?l_read_way ?c_read_way ?k_read_way ?a__law_cell_at ?l__law_cell_at ?c__law_cell_at ?k__law_cell_at ?a__law_well ?l__law_well ?c__law_well ?k__law_well ?a__law_draw ?l__law_draw ?c__law_draw ?k__law_draw ?a__law_low ?l__law_low ?c__law_low ?k__law_low ?a__law_same ?l__law_same ?c__law_same ?k__law_same ?a__law_great ?l__law_great ?c__law_great ?k__law_great ?a__law_figures ?l__law_figures ?c__law_figures ?k__law_figures ?a__law_number ?l__law_number ?c__law_number ?k__law_number ?a__law_read_fraction ?l__law_read_fraction ?c__law_read_fraction ?k__law_read_fraction ?a__law_read_way ?l__law_read_way ?c__law_read_way ?k__law_read_way ?a__law_due ?l__law_due ?c__law_due ?k__law_due ?a__law_told ?l__law_told ?c__law_told ?k__law_told ?a__law_spoilt ?l__law_spoilt ?c__law_spoilt ?k__law_spoilt ?a_law ?l_law ?c_law ?k_law ?lc_law ?v11_law ?hd_law ?nT_law ?hT_law ?g_FIGURES ?g_MOST_FIGURES ?aC_CE ?aC_CB ?aC_CN ?aC_CU ?aC_CT ?ei_CT ?eo_CT ?sa_CT ?ga_CT ?gg_CT ?kC_CT ?ex_CT ?ty_CT ?hd_CT ?ha_CT ?hn_CT ?ht_CT ?hm_CT ?iC_CT ?tC_CT ?l_CT ?cd_CT ?lc_CT ?v2_CT ?fl_CT ?ce_CT ?nf_CT ?su_CT ?sA_CT ?sf_CT ?th_CT ?ms_CT ?tp_CT ?t_CT ?z_CT ?xm_CT ?ki_CT_CT ?ki_CT_CN ?ki_CT_CB ?ki_CT_CU ?z_isinstance ?z_int ?z_bool ?z_tuple ?z_len ?z_abs ?z_all ?z_str ?z_list ?z_zip ?z_range ?z_max
    (case a_is_whole => k_is)
    (case l_is_whole => k_is)
    (case c_is_whole => k_is)
    (case k_is_whole => k_is)
    (case a_is_fraction => k_is)
    (case l_is_fraction => k_is)
    (case c_is_fraction => k_is)
    (case k_is_fraction => k_is)
    (case a_shared_divisor => k_is)
    (case l_shared_divisor => k_is)
    (case c_shared_divisor => k_is)
    (case k_shared_divisor => k_is)
    (case a_whole_of => k_is)
    (case l_whole_of => k_is)
    (case c_whole_of => k_is)
    (case k_whole_of => k_is)
    (case a_wholes_of => k_is)
    (case l_wholes_of => k_is)
    (case c_wholes_of => k_is)
    (case k_wholes_of => k_is)
    (case a_show_fraction => k_is)
    (case l_show_fraction => k_is)
    (case c_show_fraction => k_is)
    (case k_show_fraction => k_is)
    (case a_show_way => k_is)
    (case l_show_way => k_is)
    (case c_show_way => k_is)
    (case k_show_way => k_is)
    (case a_check_text => k_is)
    (case l_check_text => k_is)
    (case c_check_text => k_is)
    (case k_check_text => k_is)
    (case a_read_fraction => k_is)
    (case l_read_fraction => k_is)
    (case c_read_fraction => k_is)
    (case k_read_fraction => k_is)
    (case a_read_way => k_is)
    (case l_read_way => k_is)
    (case c_read_way => k_is)
    (case k_read_way => k_is)
    (case a__law_cell_at => k_is)
    (case l__law_cell_at => k_is)
    (case c__law_cell_at => k_is)
    (case k__law_cell_at => k_is)
    (case a__law_well => k_is)
    (case l__law_well => k_is)
    (case c__law_well => k_is)
    (case k__law_well => k_is)
    (case a__law_draw => k_is)
    (case l__law_draw => k_is)
    (case c__law_draw => k_is)
    (case k__law_draw => k_is)
    (case a__law_low => k_is)
    (case l__law_low => k_is)
    (case c__law_low => k_is)
    (case k__law_low => k_is)
    (case a__law_same => k_is)
    (case l__law_same => k_is)
    (case c__law_same => k_is)
    (case k__law_same => k_is)
    (case a__law_great => k_is)
    (case l__law_great => k_is)
    (case c__law_great => k_is)
    (case k__law_great => k_is)
    (case a__law_figures => k_is)
    (case l__law_figures => k_is)
    (case c__law_figures => k_is)
    (case k__law_figures => k_is)
    (case a__law_number => k_is)
    (case l__law_number => k_is)
    (case c__law_number => k_is)
    (case k__law_number => k_is)
    (case a__law_read_fraction => k_is)
    (case l__law_read_fraction => k_is)
    (case c__law_read_fraction => k_is)
    (case k__law_read_fraction => k_is)
    (case a__law_read_way => k_is)
    (case l__law_read_way => k_is)
    (case c__law_read_way => k_is)
    (case k__law_read_way => k_is)
    (case a__law_due => k_is)
    (case l__law_due => k_is)
    (case c__law_due => k_is)
    (case k__law_due => k_is)
    (case a__law_told => k_is)
    (case l__law_told => k_is)
    (case c__law_told => k_is)
    (case k__law_told => k_is)
    (case a__law_spoilt => k_is)
    (case l__law_spoilt => k_is)
    (case c__law_spoilt => k_is)
    (case k__law_spoilt => k_is)
    (case a_law => k_is)
    (case l_law => k_is)
    (case c_law => k_is)
    (case k_law => k_is)
    (case lc_law => k_is)
    (case v11_law => rfl)
    (case hd_law => first | kernel_rfl | rfl | decide +kernel)
    (case nT_law => first | kernel_rfl | rfl | decide +kernel)
    (case hT_law => exact PySem.W.km_tabs_of Y _ (by first | k_mem | decide | simp))
    (case g_FIGURES => k_is)
    (case g_MOST_FIGURES => k_is)
    (case aC_CE => k_is)
    (case aC_CB => k_is)
    (case aC_CN => k_is)
    (case aC_CU => k_is)
    (case aC_CT => k_is)
    (case ei_CT => kx_is)
    (case eo_CT => kx_is)
    (case sa_CT => k_is)
    (case ga_CT => k_is)
    (case gg_CT => k_is)
    (case kC_CT => k_is)
    (case ex_CT => k_is)
    (case ty_CT => k_is)
    (case hd_CT => k_is)
    (case ha_CT => k_is)
    (case hn_CT => k_is)
    (case ht_CT => k_is)
    (case hm_CT => k_is)
    (case iC_CT => k_is)
    (case tC_CT => k_is)
    (case l_CT => k_is)
    (case cd_CT => k_is)
    (case lc_CT => k_is)
    (case v2_CT => rfl)
    (case fl_CT => first | rfl | decide +kernel)
    (case ce_CT => k_is)
    (case nf_CT => k_is)
    (case su_CT => ks_is)
    (case sA_CT => k_is)
    (case sf_CT => k_is)
    (case th_CT => k_is)
    (case ms_CT => k_is)
    (case tp_CT => first | rfl | decide +kernel)
    (case t_CT => k_is)
    (case z_CT => rfl)
    (case xm_CT => kts_exm)
    (case ki_CT_CT => kit_is)
    (case ki_CT_CN => kit_is)
    (case ki_CT_CB => kit_is)
    (case ki_CT_CU => kit_is)
    (case z_isinstance => k_is)
    (case z_int => k_is)
    (case z_bool => k_is)
    (case z_tuple => k_is)
    (case z_len => k_is)
    (case z_abs => k_is)
    (case z_all => k_is)
    (case z_str => k_is)
    (case z_list => k_is)
    (case z_zip => k_is)
    (case z_range => k_is)
    (case z_max => k_is)
