import PyProof.Rows.All
import Wide.All
import OpenK.AllK
import Wide.FinOn
import HandS.Codes
import HandS.ForMost
import HandS.Wide
import HandS.Zip
import HandS.IsInst
import HandS.Defaults
import HandS.Style
import HandS.ForExc
import HandS.Walk
import HandS.More
import HandS.CallLocal
import HandS.WideBits
import KE.BitLaws
import KE.KBits
import HandS.FStr
import HandS.ExcField
import HandS.ExcIs
import KE.KExcSuper
import KE.KExcInit
import KE.KExcIs
import PyProof.FitsInt
import HandS.Lambda
import HandS.MakeKw
import KE.RegKSuper
import KE.RegKIsAll
import KE.RegKTryMore
import KE.KNestM
import HandS.EndTab
import PySem.Challenge.RW_echobound_k05_forms_refused
set_option Elab.async false
set_option linter.all false
set_option maxRecDepth 100000
set_option maxHeartbeats 4000000
namespace PySem
namespace ErrX
open PySem.W PySem.Calls PyProof.Rows PySem.HandSPX
abbrev bmA : List Value := [.type "ArithmeticError", .type "Exception", .type "BaseException", .type "object"]
/-- what the written part says of an error class under ArithmeticError -/
structure ErrC (K : Frag) (mg : Str → Option Value) (x : Str) (C : Addr) : Prop where
  gC : mg x = some (.ref C)
  ei : excInitIn K C bmA "ArithmeticError.__new__" = true
  eo : excOver K C bmA = true
  sa : findIn K (.ref C) "__setattr__" = some (some (.builtin "object.__setattr__"))
  ga : findIn K (.ref C) "__getattribute__" = some (some (.builtin "BaseException.__getattribute__"))
  gg : findIn K (.ref C) "__getattr__" = some none
  kC : keepIn K (.ref C) = true
  exC : subIn K (.ref C) (.type "BaseException") = some true
  tyC : typeIn K (.ref C) = some (.type "type")
  hdC : hasDictIn K C = true
/-- its __init__: super().__init__(f'..'), then one field of the same name as the parameter -/
structure IniC (prog : Program) (K : Frag) (mg : Str → Option Value) (C fI cc : Addr) (qual fld : Str) (st : Stmt) (dV : Value) : Prop where
  iC : findIn K (.ref C) "__init__" = some (some (.ref fI))
  tC : typeIn K (.ref fI) = some (.type "function")
  fn : ∃ (oc : Value) (od : Option Addr) (kV doc pm : Value) (an : Option Addr) (cda : Addr) (ct : Value) (osl : Array (Option Value)),
    K.lookup fI = some ⟨oc, od, .func (ksFn "__init__" qual (L2.defArgs st) (L2.defBody st) (L2.defScope st) dV kV doc pm an (.ref cda) ct cc), osl⟩ ∧ codeIn K (.ref cda) qual = true ∧
    ∃ (ccl : Value) (cdd : Option Addr) (vs : Array Value) (ccs : Array (Option Value)) (file : Str) (tf : Tok), K.lookup cda = some ⟨ccl, cdd, .fields vs, ccs⟩ ∧ vs[2]? = some (.str file tf) ∧ ((prog.main.file : Str) == file) = true
  cell : ∃ (cl : Value) (cld : Option Addr) (csl : Array (Option Value)), K.lookup cc = some ⟨cl, cld, .cell (some (.ref C)), csl⟩
  noF : findIn K (.ref C) fld = some none
  sup : ks_superIn K C C "__init__" = some (some (.builtin "ArithmeticError.__init__"))
  subA : subIn K (.ref C) (.type "ArithmeticError") = some true
  slf : mroIn K C (.ref C) = some true
  th : nsIn K cStatics "thirdparty.any" = some none
  msup : mg "super" = none
  top : (prog.main.scope.names.lookup ("super" : Str)).isSome = false
/-- the parts of the text -/
inductive FP (fld : Str) : Expr → Prop
  | c {x : Str} {j : Nat} {pos : Pos} (h : x.length ≤ 1000) : FP fld (.Constant (.str x) j pos)
  | f {p q : Pos} : FP fld (.FormattedValue (.Name fld p) (-1) none q)
/-- a value that is written as a text of at most a thousand signs -/
def FmtOk (v : Value) : Prop := (∃ y t, v = .str y t ∧ y.length ≤ 1000) ∨ ∃ i t, v = .int i t ∧ i.natAbs.log2 < 1920 ∧ (toString i : String).length ≤ 1000
section
variable {prog : Program} {w : World} {A : Around} {E : Value → Shared → Prop} {R : Result → Shared → Prop} {s : Shared} {K : Frag} {mg mb : Str → Option Value} {C fI cc : Addr} {qual fld : Str} {st : Stmt}
theorem joins_ok {env : Env} {m : Str → Option Value} {v : Value} (hk : env.scope.kind = .function) (hl : env.kindOf fld = some .local) (hd : (fld == ("__debug__" : Str)) = false) (hv : m fld = some v) (fv : FmtOk v) :
    ∀ (es : List Expr) (acc : Str) (s : Shared) (Q : Str → Shared → Prop), (∀ e ∈ es, FP fld e) → acc.length + 1000 * es.length ≤ 100000 → s.heap.Ns env.locals m →
      (∀ out tk, out.length ≤ 100000 → Q out { s with toks := tk }) → Joins (model prog w) A E (evalEach es env) acc Q s
  | [], acc, s, Q, _, hz, _, hq => by
    have e0 : evalEach [] env = [] := by first | rfl | simp [evalEach]
    rw [e0]
    have := hq acc s.toks (by simpa using hz)
    exact this
  | e :: es, acc, s, Q, hp, hz, hn, hq => by
    have e0 : evalEach (e :: es) env = eval e env :: evalEach es env := by first | rfl | simp [evalEach]
    rw [e0]
    have hp' : ∀ e ∈ es, FP fld e := fun e h => hp e (List.mem_cons_of_mem _ h)
    rw [List.length_cons] at hz
    have step : ∀ (y : Str) (t : Tok) (tk : Nat), y.length ≤ 1000 → ∃ y' t', Value.str y t = .str y' t' ∧ (acc ++ y').length ≤ sizeLine ∧ Joins (model prog w) A E (evalEach es env) (acc ++ y') Q { s with toks := tk } := fun y t tk hy => by
      have hlen : (acc ++ y).length = acc.length + y.length := by first | exact Str.length_append _ _ | simp
      refine ⟨y, t, rfl, ?_, ?_⟩
      · rw [hlen, sizeLine_eq]
        omega
      · exact joins_ok hk hl hd hv fv es (acc ++ y) { s with toks := tk } Q hp' (by rw [hlen]; omega) hn fun out tk' ho => hq out tk' ho
    show wpAny _ _ (eval e env) _ _ _
    cases hp e List.mem_cons_self with
    | c h => exact Calls.Constant_str (step _ _ _ h)
    | f =>
      refine wpAny_FormattedValue_plain (wpAny_Name (wpAny_loadName_local hk hl hn hv ?_) hd)
      rcases fv with ⟨y, t, rfl, hy⟩ | ⟨i, t, rfl, hi, hy⟩
      · exact wpAny_formatField_str (step y t s.toks hy) (step y _ _ hy) (by rw [sizeLine_eq]; omega)
      · exact wpAny_formatField_int hi (step _ _ _ (by rw [ofString_length]; exact hy))
end
end ErrX
end PySem

namespace PySem
namespace ErrX
open PySem.W PySem.Calls PyProof.Rows PySem.HandSPX
/-- a dict with one text for its key -/
theorem one_key {h : Heap} {dx : Addr} {fld : Str} {hs : Int} {tk : Tok} {v : Value} (e : h.get? dx = some (dictOf [⟨hs, .str fld tk, v⟩] 1)) : h.Ns1 dx (fun y => if y = fld then some v else none) := by
  refine ⟨_, _, _, e, rfl, fun d hd => ?_, List.pairwise_singleton _ _, fun y => ?_⟩
  · obtain rfl : d = ⟨hs, .str fld tk, v⟩ := by simpa using hd
    exact ⟨fld, tk, rfl⟩
  · by_cases z : y = fld
    · subst z
      simp [nsFind, findBy, Value.isStr]
    · simp [nsFind, findBy, Value.isStr, z, Ne.symm z]
/-- what __init__ leaves of a fresh error at x -/
structure IniEnd (h h' : Heap) (x C dx : Addr) (fld : Str) (v : Value) : Prop where
  keep : ∀ b o, b ≠ x → h.get? b = some o → h'.get? b = some o
  obj : ∃ t1 : Addr, h'.get? x = some { cls := .ref C, dict := some dx, data := .fields #[.ref t1, .none, .none, .none, .bool false, .none] }
  dbig : h.objs.size ≤ dx
  dne : dx ≠ x
  ns : h'.Ns1 dx (fun y => if y = fld then some v else none)
section
variable {prog : Program} {w : World} {A : Around} {E : Value → Shared → Prop} {R : Result → Shared → Prop} {s : Shared} {K : Frag} {mg : Str → Option Value} {C fI cc : Addr} {nm qual fld : Str} {st : Stmt}
abbrev iniScope (fld : Str) : Scope := { kind := .function, names := [(Str.ofString "self", .local), (fld, .local), (Str.ofString "__class__", .free), (Str.ofString "super", .globalImplicit)], isGenerator := false, isCoroutine := false, more := [] }
abbrev iniBody (fld : Str) (v1 v2 : Expr) (rest : List Expr) (p1 p2 p3 p4 p5 p6 q1 q2 q3 q4 : Pos) : List Stmt :=
  [.Expr (.Call (.Attribute (.Call (.Name "super" p1) [] [] p2) "__init__" p3) [.JoinedStr (v1 :: v2 :: rest) p4] [] p5) p6, .Assign [.Attribute (.Name "self" q1) fld q2] (.Name fld q3) q4]
/-- a field's name that is none of these -/
structure FldOk (fld : Str) : Prop where
  f1 : (fld == Str.ofString "self") = false
  f2 : (Str.ofString "__class__" == fld) = false
  f3 : (Str.ofString "super" == fld) = false
  f4 : (Str.ofString "self" == fld) = false
  f5 : (fld == Str.ofString "__debug__") = false
section
variable {fld : Str}
theorem lk_self : (iniScope fld).names.lookup (Str.ofString "self") = some .local := by
  rw [List.lookup_cons, beq_self_eq_true]
theorem lk_fld (O : FldOk fld) : (iniScope fld).names.lookup fld = some .local := by
  rw [List.lookup_cons, O.f1, List.lookup_cons, beq_self_eq_true]
theorem lk_cls (O : FldOk fld) : (iniScope fld).names.lookup (Str.ofString "__class__") = some .free := by
  rw [List.lookup_cons, show (Str.ofString "__class__" == Str.ofString "self") = false by decide +kernel, List.lookup_cons, O.f2, List.lookup_cons, beq_self_eq_true]
theorem lk_sup (O : FldOk fld) : (iniScope fld).names.lookup (Str.ofString "super") = some .globalImplicit := by
  rw [List.lookup_cons, show (Str.ofString "super" == Str.ofString "self") = false by decide +kernel, List.lookup_cons, O.f3, List.lookup_cons, show (Str.ofString "super" == Str.ofString "__class__") = false by decide +kernel, List.lookup_cons, beq_self_eq_true]
end
theorem err_init {s1 p1 p2 p3 p4 p5 p6 q1 q2 q3 q4 : Pos} {v1 v2 : Expr} {rest : List Expr} (EC : ErrC K mg nm C) {dV : Value} (IC : IniC prog K mg C fI cc qual fld st dV) (O : FldOk fld)
    (hbd : L2.defBody st = iniBody fld v1 v2 rest p1 p2 p3 p4 p5 p6 q1 q2 q3 q4)
    (hpar : ((L2.defArgs st).posonlyargs ++ (L2.defArgs st).args).head? = some { arg := "self", annotation := none, pos := s1 })
    (hps : ∀ e ∈ v1 :: v2 :: rest, FP fld e) (hlen : rest.length ≤ 20) (hpos : (p3.endLine == p5.line) = true) (hsc : L2.defScope st = iniScope fld)
    {x t0 : Addr} {v : Value} (MO : L2.Mod K mg s.heap) (hx : s.heap.get? x = some (excO C t0)) (hnx : K.lookup x = none) (hroom : A.depth < recursionLimit) (fv : FmtOk v)
    (hbind : ∀ kV doc pm an cda ct, BindsTo s (ksFn "__init__" qual (L2.defArgs st) (L2.defBody st) (L2.defScope st) dV kV doc pm an (.ref cda) ct cc) ⟨[.ref x, v], []⟩ [(Str.ofString "self", .ref x), (fld, v)])
    (hq : ∀ h' tk dx, IniEnd s.heap h' x C dx fld v → R (.ok (.ret .none)) { s with heap := h', toks := tk }) :
    codeAny (model prog w) A (.call (.ref fI) ⟨[.ref x, v], []⟩) R s := by
  obtain ⟨oc, od, kV, doc, pm, an, cda, ct, osl, ho, hcd, ccl, cdd, vs, ccs, file, tf, hcda, hvs, hfile⟩ := IC.fn
  have X := MO.kin
  have hb := hbind kV doc pm an cda ct
  rw [hbd, hsc] at ho hb
  obtain ⟨cl, cld, csl, hcell⟩ := IC.cell
  obtain ⟨mb, hmb, hmb2⟩ := MO.blt
  obtain ⟨nm', N', qn, bs, bm, hdct, sn, sub, ab, col, dd, k0, k1, k2, k3, k5, hC, hT⟩ := excInit_of X EC.ei
  obtain ⟨hp, g, d, t, os⟩ := s
  refine ks_codeAny_call_defAt (fd := ksFn "__init__" qual (L2.defArgs st) (iniBody fld v1 v2 rest p1 p2 p3 p4 p5 p6 q1 q2 q3 q4) (iniScope fld) dV kV doc pm an (.ref cda) ct cc) (body := iniBody fld v1 v2 rest p1 p2 p3 p4 p5 p6 q1 q2 q3 q4) (binds := [(Str.ofString "self", .ref x), (fld, v)])
    hroom (X _ _ ho) rfl MO.nolimit (codeRec_of X hcd) rfl hb ?_ ?_ (fun h₁ hns k => ?_)
  · intro y hy z
    have hy' : y ∈ (iniScope fld).names := hy
    simp only [List.mem_cons, List.not_mem_nil, or_false] at hy'
    rcases hy' with rfl | rfl | rfl | rfl <;> cases z
  · intro y hy
    simp only [List.mem_cons, List.not_mem_nil, or_false] at hy
    rcases hy with rfl | rfl
    · exact lk_self
    · exact lk_fld O
  · have X₁ : K.In h₁ := X.keeps k
    have hx₁ := k _ _ hx
    have hC₁ := k _ _ hC
    have mS : (fun y => [(Str.ofString "self", Value.ref x), (fld, v)].reverse.lookup y) (Str.ofString "self") = some (.ref x) := by
      show List.lookup (Str.ofString "self") [(fld, v), (Str.ofString "self", Value.ref x)] = _
      rw [List.lookup_cons, O.f4, List.lookup_cons, beq_self_eq_true]
    have mF : (fun y => [(Str.ofString "self", Value.ref x), (fld, v)].reverse.lookup y) fld = some v := by
      show List.lookup fld [(fld, v), (Str.ofString "self", Value.ref x)] = _
      rw [List.lookup_cons, beq_self_eq_true]
    refine ks_wpAt_execs_cons (ks_wpAt_Expr_any (ks_wpAt_MethodCall (pl := (do return (← importBound (.Call (.Name "super" p1) [] [] p2) (ksEnv qual (iniScope fld) hp.objs.size fI (.ref cda) cc)).getD true)) ?_ ?_))
    rotate_left
    · rw [arm_eval_Call]
      unfold methodCall
      have e2 : ∀ env : Env, methodCallPos (methodCallForm ([Expr.JoinedStr (v1 :: v2 :: rest) p4].length + ([] : List Keyword).length) (backTo p5 (starEach [Expr.JoinedStr (v1 :: v2 :: rest) p4] env)) (backToKw p5 (keywordEach [] env))) (.Call (.Name "super" p1) [] [] p2) env p3 p5 = pure p5 := fun env => by
        show (if (!true || p3.endLine == p5.line) = true then pure p5 else _) = _
        rw [hpos]
        rfl
      rw [e2]
      rfl
    refine ks_wpAt_super_base (f := fI) (cc := cda) (lk_sup O) (lk_cls O) (by decide +kernel) rfl (X₁ _ _ ho) rfl hpar rfl (X₁ _ _ hcda) rfl hvs hfile IC.top ?_
    refine ks_loadName_global rfl (lk_sup O) (loadGlobal_builtin (MO.glob.keeps k) IC.msup (hmb.keeps k) ((hmb2 "super" (by decide)).trans (show bootBuiltins "super" = some (.type "super") by decide +kernel)) ⟨rfl, ?_⟩)
    refine wpAny_loadName_free rfl (lk_cls O) rfl ⟨_, X₁ _ _ hcell, rfl⟩ ?_
    refine wpAny_loadName_local rfl lk_self hns mS ?_
    refine ks_wpAny_isType_cls hC₁ rfl ⟨rfl, ?_⟩
    refine ks_wpAny_call_super hC₁ rfl hx₁ rfl (fun c z => by cases z) (looks_mroIn X₁ IC.slf) (fun h₂ hso k₂ => ?_)
    have X₂ : K.In h₂ := X₁.keeps k₂
    have hx₂ := k₂ _ _ hx₁
    have I₂ : W.InstAt h₂ x (excO C t0) C none := ⟨hx₂, rfl, rfl, trivial⟩
    have hsup := IC.sup
    unfold ks_superIn at hsup
    cases hc : clsIn K C with
    | none =>
      rw [hc] at hsup
      cases hsup
    | some cd =>
    rw [hc] at hsup
    refine kxs_getMethod kxs_ArithmeticError hso (looks_opaque X₂ IC.th) (l₀ := cd.mro) (fun A Q E s k q => wpAny_bind ((looks_clsIn X₂ hc) A _ E s k (wpAny_pure q))) rfl X₂ hsup (I₂.type.andThen (looks_subIn X₂ IC.subA)) (ks_ne X₂ I₂ hc) (by decide +kernel) ?_
    have k₃ : ∀ b o, h₂.get? b = some o → (h₂.push (kxs_mw "ArithmeticError.__init__" x)).get? b = some o := fun b o e => Heap.get?_push_of_some _ e
    have hu : (h₂.push (kxs_mw "ArithmeticError.__init__" x)).get? h₂.objs.size = some (kxs_mw "ArithmeticError.__init__" x) := Heap.get?_push_at rfl rfl
    have kk : ∀ b o, hp.get? b = some o → (h₂.push (kxs_mw "ArithmeticError.__init__" x)).get? b = some o := fun b o e => k₃ _ _ (k₂ _ _ (k _ _ e))
    have hns₃ : (h₂.push (kxs_mw "ArithmeticError.__init__" x)).Ns hp.objs.size (fun y => [(Str.ofString "self", Value.ref x), (fld, v)].reverse.lookup y) := by
      obtain ⟨oL, es, ep, hL, r⟩ := hns
      exact ⟨oL, es, ep, k₃ _ _ (k₂ _ _ hL), r⟩
    have hx₃ := k₃ _ _ hx₂
    have hC₃ := kk _ _ hC
    have hsz : h₂.objs.size < (h₂.push (kxs_mw "ArithmeticError.__init__" x)).objs.size := Heap.lt_size hu
    generalize h₂.push (kxs_mw "ArithmeticError.__init__" x) = h₃ at *
    refine kxs_callWith (i := "ArithmeticError.__init__") (x := x) rfl (evalArgs_plain ?_)
    refine Calls.spliced_cons (wpAny_JoinedStr (pos := p4) (joins_ok (env := callEnv (ksFn "__init__" qual (L2.defArgs st) (iniBody fld v1 v2 rest p1 p2 p3 p4 p5 p6 q1 q2 q3 q4) (iniScope fld) dV kV doc pm an (.ref cda) ct cc) hp.objs.size fI) rfl (lk_fld O) O.f5 mF fv _ Str.empty _ _ hps ?_ hns₃ fun out tk ho => ⟨by rw [sizeLine_eq]; omega, ?_⟩))
    · rw [List.length_cons, List.length_cons]
      show 0 + 1000 * (rest.length + 1 + 1) ≤ 100000
      omega
    refine Calls.spliced_nil ⟨hu, ?_⟩
    -- the library's own rules, over the heap of the call with the error itself left out
    have xL : x ≠ hp.objs.size := Nat.ne_of_lt (Heap.lt_size hx)
    have nK : ∀ a o, K.lookup a = some o → a ∉ [x] := fun a o e z => by
      rw [List.mem_singleton.mp z, hnx] at e
      cases e
    have X₀ : K.In (hideAll hp [x]) := fun a o e => hideAll_get [x] (X a o e) (nK a o e)
    have F₃ : Fr (hideAll hp [x]) hp.objs.size h₃ (fun y => [(Str.ofString "self", Value.ref x), (fld, v)].reverse.lookup y) :=
      ⟨hns₃, fun b o e => kk b o (of_hideAll [x] e), Nat.le_of_eq (hideAll_size [x] hp)⟩
    have L₂ : hp.objs.size < h₂.objs.size := by
      obtain ⟨oL, es, ep, hL, _⟩ := hns
      exact Heap.lt_size (k₂ _ _ hL)
    have ux : h₂.objs.size ≠ x := Nat.ne_of_gt (Nat.lt_trans (Heap.lt_size hx) L₂)
    have uo : (hideAll hp [x]).get? h₂.objs.size = none := by
      cases e : (hideAll hp [x]).get? h₂.objs.size with
      | none => rfl
      | some o => exact absurd (Nat.lt_trans (Heap.lt_size (of_hideAll [x] e)) L₂) (Nat.lt_irrefl _)
    have N₃ : News (hideAll hp [x]) hp.objs.size h₃ [(h₂.objs.size, kxs_mw "ArithmeticError.__init__" x), (x, excObj C t0 none .none)] := fun p hp' => by
      rcases List.mem_cons.mp hp' with rfl | hp'
      · exact ⟨hu, Nat.ne_of_gt L₂, uo⟩
      · obtain rfl := List.mem_singleton.mp hp'
        exact ⟨hx₃, xL, hideAll_none [x] (List.mem_singleton.mpr rfl)⟩
    refine kxs_call F₃ X₀ N₃ F.excBase_ArithmeticError EC.ei List.mem_cons_self (.tail ux (.head fun p z => nomatch z)) (by show 1 ≤ sizeLine; decide) fun t1 h₄ F₄ N₄ lt₄ => ?_
    have X₄ : K.In h₄ := X₀.keeps F₄.keep
    have hx₄ : h₄.get? x = some (excO C t1) := (N₄ (x, excObj C t1 none .none) (by simp)).1
    have tx : t1 ≠ x := Nat.ne_of_gt (lt₄ (x, excObj C t0 none .none) (by simp))
    refine ks_wpAt_execs_cons (ks_wpAt_Assign_Attr (wpAt_of_wpAny (wpAny_Name (wpAny_loadName_local rfl (lk_fld O) F₄.ns mF ?_) O.f5)))
    refine wpAny_Name (wpAny_loadName_local rfl lk_self F₄.ns mS ?_) (by decide +kernel)
    refine set_plain X₄ (ox := excO C t1) (od := none) ⟨hx₄, rfl, rfl, trivial⟩ EC.sa ?_
    have free : takerIn K C fld = some none := by
      rw [takerIn, IC.noF]
      rfl
    refine osa_exc0 (pre := [(t1, _), (h₂.objs.size, _)]) (post := []) F.store_ArithmeticError F₄ N₄ X₄ EC.eo free EC.hdC (fun p z => ?_) (fun p z => nomatch z) (putName_dict _ _ _ _ _ _) rfl (by show 1 ≤ 1000; decide) fun dx h₅ F₅ N₅ lt₅ => ?_
    · rcases List.mem_cons.mp z with rfl | z
      · exact tx
      · obtain rfl := List.mem_singleton.mp z
        exact ux
    refine wpAt_of_wpAny (wpAny_execs_nil ?_)
    have xd : x < dx := lt₅ (x, excObj C t1 none .none) (by simp)
    have ud : h₂.objs.size < dx := lt₅ (h₂.objs.size, kxs_mw "ArithmeticError.__init__" x) (by simp)
    exact hq h₅ _ dx ⟨fun b o hb e => F₅.keep b o (hideAll_get [x] e fun z => hb (List.mem_singleton.mp z)), ⟨t1, (N₅ (x, excObj C t1 (some dx) .none) (by simp)).1⟩, Nat.le_of_lt (Nat.lt_trans L₂ ud), Nat.ne_of_gt xd, one_key (N₅ _ List.mem_cons_self).1⟩
end
end ErrX
end PySem

namespace PySem
namespace ErrX
open PySem.W PySem.Calls PyProof.Rows PySem.HandSPX
/-- a made error with one field -/
structure Made1 (h h' : Heap) (e C d : Addr) (fld : Str) (v : Value) : Prop where
  keep : ∀ b o, h.get? b = some o → h'.get? b = some o
  new : h.objs.size ≤ e
  obj : ∃ oe vs, h'.get? e = some oe ∧ oe.cls = .ref C ∧ oe.dict = some d ∧ oe.data = .fields vs ∧ vs[1]? = some .none
  dbig : h.objs.size ≤ d
  dne : d ≠ e
  ns : h'.Ns1 d (fun y => if y = fld then some v else none)
/-- its __init__ does as it should -/
structure IniOk (prog : Program) (w : World) (K : Frag) (mg : Str → Option Value) (C fI : Addr) (fld : Str) : Prop where
  iC : findIn K (.ref C) "__init__" = some (some (.ref fI))
  tC : typeIn K (.ref fI) = some (.type "function")
  run : ∀ (A : Around) (R : Result → Shared → Prop) (s : Shared) (x t0 : Addr) (v : Value), L2.Mod K mg s.heap → s.heap.get? x = some (excO C t0) → K.lookup x = none → A.depth < recursionLimit → FmtOk v →
    (∀ h' tk dx, IniEnd s.heap h' x C dx fld v → R (.ok (.ret .none)) { s with heap := h', toks := tk }) → codeAny (model prog w) A (.call (.ref fI) ⟨[.ref x, v], []⟩) R s
section
variable {prog : Program} {w : World} {A : Around} {E : Value → Shared → Prop} {R : Result → Shared → Prop} {s : Shared} {K : Frag} {mg : Str → Option Value} {C fI : Addr} {nm fld : Str}
theorem err_made (EC : ErrC K mg nm C) (IO : IniOk prog w K mg C fI fld) {v : Value} (MO : L2.Mod K mg s.heap) (hroom : A.depth + 1 < recursionLimit) (fv : FmtOk v)
    (hq : ∀ h' tk e d, Made1 s.heap h' e C d fld v → R (.ok (.ret (.ref e))) { s with heap := h', toks := tk }) :
    codeAny (model prog w) A (.call (.ref C) ⟨[v], []⟩) R s := by
  have X := MO.kin
  obtain ⟨nm', N', qn, bs, bm, hdct, sn, sub, ab, col, dd, k0, k1, k2, k3, k5, hC, hT⟩ := excInit_of X EC.ei
  obtain ⟨hp, g, dr, tk, os⟩ := s
  have k : ∀ b o, hp.get? b = some o → ((hp.push (kdv_tup [v])).push (excO C hp.objs.size)).get? b = some o := fun b o e => Heap.get?_push_of_some _ (Heap.get?_push_of_some _ e)
  have hget : ((hp.push (kdv_tup [v])).push (excO C hp.objs.size)).get? (hp.objs.size + 1) = some (excO C hp.objs.size) := by heap_get
  have hnx : K.lookup (hp.objs.size + 1) = none := by
    cases e : K.lookup (hp.objs.size + 1) with
    | none => rfl
    | some o =>
      have z : hp.get? (hp.objs.size + 1) = some o := X _ _ e
      exact absurd (Nat.lt_of_succ_lt (Heap.lt_size z)) (Nat.lt_irrefl _)
  have MO' : L2.Mod K mg ((hp.push (kdv_tup [v])).push (excO C hp.objs.size)) := by
    obtain ⟨mb, h1, h2⟩ := MO.blt
    exact ⟨X.keeps k, MO.glob.keeps k, ⟨mb, h1.keeps k, h2⟩, MO.nolimit.keeps k⟩
  refine call_own F.excBase_ArithmeticError hT hC (looks_findIn X IO.iC) (fun self => bind_fn X self IO.tC) (by show 1 ≤ sizeLine; decide) ?_
  refine IO.run _ _ ⟨(hp.push (kdv_tup [v])).push (excO C hp.objs.size), g, dr, tk, os⟩ _ _ _ MO' hget hnx ?_ fv fun h' tk' dx ⟨k', ⟨t1, hx⟩, dn, dne, hns⟩ => ?_
  · show A.depth + 1 < recursionLimit
    exact hroom
  · have old : ∀ b o, hp.get? b = some o → h'.get? b = some o := fun b o e => k' b o (Nat.ne_of_lt (Nat.lt_succ_of_lt (Heap.lt_size e))) (k b o e)
    have z : hp.objs.size + 1 + 1 ≤ dx := by
      first
        | (simpa only [Heap.size_push] using dn)
        | exact dn
        | (have q := dn; rw [Heap.size_push, Heap.size_push] at q; exact q)
    exact ⟨rfl, hq h' tk' (hp.objs.size + 1) dx ⟨old, Nat.le_succ _, ⟨_, _, hx, rfl, rfl, rfl, rfl⟩, Nat.le_trans (Nat.le_trans (Nat.le_succ _) (Nat.le_succ _)) z, dne, hns⟩⟩
end
end ErrX
end PySem
namespace E1
open PySem PySem.Spec PyProof.Rows L2
open PySem.ErrX (ErrC IniOk FmtOk)
/-- a value that is written as a text of at most a thousand signs -/
def VFmt (v : V) : Prop := (∃ y : Str, v = .str y ∧ y.length ≤ 1000) ∨ ∃ i : Int, v = .int i ∧ i.natAbs.log2 < 1920 ∧ (toString i : String).length ≤ 1000
theorem VFmt.ok {v : V} {u : Value} (h : VFmt v) (r : RelV v u) : FmtOk u := by
  rcases h with ⟨y, rfl, hy⟩ | ⟨i, rfl, hi, hy⟩
  · obtain ⟨t, rfl⟩ := (show ∃ t, u = Value.str y t from r)
    exact .inl ⟨y, t, rfl, hy⟩
  · obtain ⟨t, rfl⟩ := (show ∃ t, u = Value.int i t from r)
    exact .inr ⟨i, t, rfl, hi, hy⟩
theorem relO_one {fld : Str} {v : V} {v' : Value} (r : RelV v v') (f : Str) : RelO (List.lookup f [(fld, v)]) (if f = fld then some v' else none) := by
  by_cases hw : f = fld
  · subst hw
    rw [if_pos rfl]
    have q : List.lookup f [(f, v)] = some v := by simp [List.lookup]
    rw [q]
    exact r
  · rw [if_neg hw]
    have qw : (f == fld) = false := by simpa using hw
    have q2 : List.lookup f [(fld, v)] = none := by simp [List.lookup, qw]
    rw [q2]
    trivial
section
variable {X : Cx} {C fI : Addr} {x fld : Str}
/-- X(e), an error with one field -/
def tMkErr (C : Addr) (fld : Str) (ta : TA) : L2.St → Hp → XK → Prop := fun σ H Q => ta σ H fun vs H1 => ∃ v, vs = [v] ∧ VFmt v ∧ ∀ d, H1 d = none → Q (.ref C) (some d) (upd H1 d (.xd [(fld, v)]))
theorem pmk_err {a : Expr} {ta : TA} {p pos : Pos} {k : Nat} (EC : ErrC X.K X.mg x C) (IO : IniOk X.prog X.w X.K X.mg C fI fld) (hr : Room k X.A) (ha : PA X [a] ta) (hg : Gl X x := by rfl) (hdb : (x == ("__debug__" : Str)) = false := by decide)
    (he : starEach (a :: []) X.env = (false, eval a X.env) :: starEach [] X.env := by rfl) (hpl : (backTo pos (starEach [] X.env)).any (·.1) = false := by rfl) :
    PMk X (.Call (.Name x p) [a] [] pos) (tMkErr C fld ta) := by
  intro pins s σ H Q I h
  refine wpAny_Call_Name_kw (ld_glob I hg EC.gC ?_ hdb)
  refine PySem.W.callWith_K (h₀ := X.base) I.ok.mod.kin EC.kC (thn (ha.run pos pins s σ H _ I h) fun us s1 hh => ?_) he hpl
  obtain ⟨vs, H1, I1, r1, v, ev, fv, q1⟩ := hh
  subst ev
  refine ⟨I1.kIn, ?_⟩
  cases r1 with
  | cons rv rn =>
    rename_i v' us'
    cases rn
    show wpAny _ _ (call (.ref C) [v']) _ _ _
    have MO : Mod X.K X.mg s1.heap := by
      obtain ⟨mb, h1, h2⟩ := I1.mod.blt
      exact ⟨I1.kIn, I1.mod.glob.keeps I1.bk, ⟨mb, h1.keeps I1.bk, h2⟩, I1.nolimit⟩
    obtain ⟨hp, g, dr, tk, os⟩ := s1
    refine wpAny_call (PySem.ErrX.err_made EC IO MO (by have := hr.dp; omega) (fv.ok rv) fun h' tk' e d M => ?_)
    show MkP X pins σ Q (.ref e) ⟨h', g, dr, tk', os⟩
    obtain ⟨oe, fv', hoe, hc, hd, hdat, h1⟩ := M.obj
    have hns := M.ns
    obtain ⟨G', g1, g2⟩ := restrict h' fun b => decide (b ≠ e)
    have gk : ∀ b, b ≠ e → G'.get? b = h'.get? b := fun b hb => g1 b (decide_eq_true hb)
    have ge : G'.get? e = none := g2 e (by simp)
    have old : ∀ b o, hp.get? b = some o → G'.get? b = some o := fun b o q => (gk b (Nat.ne_of_lt (Nat.lt_of_lt_of_le (Heap.lt_size q) M.new))).trans (M.keep b o q)
    have ob : ObjOk X.prog X.w (upd H1 d (.xd [(fld, v)])) G' d (.xd [(fld, v)]) :=
      ⟨_, hns.at (fun o q => (gk d M.dne).trans q), fun f => relO_one rv f⟩
    have J : Inv X pins σ (upd H1 d (.xd [(fld, v)])) ⟨G', g, dr, tk', os⟩ := I1.laid (t' := tk') old M.dbig ob
    refine ⟨e, oe, fv', ⟨G', g, dr, tk', os⟩, _, .ref C, some d, rfl, J, fun b o q => ?_, ge, hoe, ⟨hc, hd⟩, hdat, h1, ?_, rfl, I1.bare, raises_own EC.exC EC.tyC, q1 d (I1.hok.fresh M.dbig)⟩
    · by_cases hb : b = e
      · have q' : G'.get? b = some o := q
        rw [hb, ge] at q'; cases q'
      · exact (gk b hb).symm.trans q
    · rw [upd_ne (Ne.symm M.dne)]
      exact I1.hok.fresh M.new
/-- raise X(e) -/
def tRaiseErr (C : Addr) (fld : Str) (W : WX) (ta : TA) : TS := fun _ σ H => tMkErr C fld ta σ H fun cls d H' => W cls d σ H'
theorem ps_raiseErr {a : Expr} {ta : TA} {W : WX} {p pos pos2 : Pos} {k : Nat} (hc : X.calm = true) (EC : ErrC X.K X.mg x C) (IO : IniOk X.prog X.w X.K X.mg C fI fld) (hr : Room k X.A) (tk : Takes X W) (ha : PA X [a] ta) (hg : Gl X x := by rfl) (hdb : (x == ("__debug__" : Str)) = false := by decide)
    (he : starEach (a :: []) X.env = (false, eval a X.env) :: starEach [] X.env := by rfl) (hpl : (backTo pos (starEach [] X.env)).any (·.1) = false := by rfl) :
    PS X (.Raise (some (.Call (.Name x p) [a] [] pos)) none pos2) (tRaiseErr C fld W ta) := ps_raise hc tk (pmk_err EC IO hr ha hg hdb he hpl)
/-- e.f of a caught error -/
theorem ErrC.xf {K : PySem.W.Frag} {mg : Str → Option Value} (EC : ErrC K mg x C) : XfC K C := ⟨EC.ga, EC.gg, EC.exC, EC.hdC⟩
end
end E1

namespace E1
open PySem PySem.Spec PyProof.Rows L2
open PySem.ErrX (ErrC IniOk FmtOk)
/-- isinstance(e, c), e the error that the suite holds, its class an own one -/
def rIsX (K : PySem.W.Frag) (a : Addr) (cls : Value) (d : Option Addr) : List V → Hp → VK → Prop := fun xs H Q => ∃ (D : Addr) (c : V) (cv : Value) (b : Bool), cls = .ref D ∧ ExcC K D ∧ xs = [.ref a, c] ∧ (∀ u, RelV c u → u = cv) ∧
  (∀ dd, d = some dd → ∃ fs, H dd = some (.xd fs)) ∧ PySem.W.kitOne K (.ref D) cv = some b ∧ Q (.bl b) H
theorem call_isX {X : Cx} {a : Addr} {cls : Value} {d : Option Addr} {oe : Obj} {pn : List (Addr × Obj)} (hz : Zc cls d oe) (hf : ∃ vs, oe.data = .fields vs) : CallR (X.suite a ((a, oe) :: pn)) (.builtin "isinstance") (rIsX X.K a cls d) := by
  intro pins s σ H xs us Q I r ⟨D, c, cv, b, hcls, C, hxs, only, hdd, yes, q⟩
  subst hcls hxs
  match d, hz, hdd, us, r with
  | none, hz, _, us, r => exact call_isE C hz hf pins s σ H _ us Q I r ⟨c, cv, b, rfl, only, yes, q⟩
  | some dd, ⟨kind, own⟩, hdd, [x, u], .cons hx (.cons hu .nil) =>
    cases hx
    cases only u hu
    obtain ⟨fs, tracked⟩ := hdd dd rfl
    obtain ⟨m, space, _⟩ := show ObjOk X.prog X.w H s.heap dd (.xd fs) from I.hok dd _ tracked
    obtain ⟨dict, lies, _⟩ := lookIn_ns space
    obtain ⟨parts, hparts⟩ := hf
    have held := (I.pin (a, oe) (by simp)).1
    have inst : PySem.W.InstAt s.heap a oe D (some dict) := by
      refine ⟨held, kind, ?_, ?_⟩
      · obtain ⟨_, _, dat, _⟩ := oe
        dsimp only at hparts ⊢
        rw [hparts]
        rfl
      · simpa [own] using lies
    have known : (PySem.W.clsIn X.K D).isSome = true := Option.isSome_iff_exists.mpr ((PySem.W.any_some C.hd).imp fun _ z => z.1)
    exact PySem.W.kia_one (PySem.W.kitx_exc known C.hg C.hk C.hs C.ha C.hn C.ht C.hm) I.kIn inst yes (fun z => nomatch z) fun tk => ⟨.bl b, H, I.kept (t' := tk) fun _ _ z => z, rfl, q⟩
/-! ### calls of defs that may raise -/
def CalX (P : Program) (w : World) (K : PySem.W.Frag) (mg : Str → Option Value) (base : Heap) (k : Nat) (x : Str) (ps : List Str) (dvs : List V) (sp : Sp) : Prop :=
  ∃ (f : Addr) (fd : FuncData) (ds : List Value), mg x = some (.ref f) ∧ PySem.W.keepIn K (.ref f) = true ∧ Vals dvs ds ∧ Binds K fd ps ds ∧ FnOk P w K mg base (L2.CX P w) k f fd ps sp
theorem pe_calx {X : Cx} {k j : Nat} {x : Str} {ps : List Str} {dvs : List V} {sp : Sp} {e : Expr} {es : List Expr} {t : TA} {p pos : Pos} (c : CalX X.prog X.w X.K X.mg X.base k x ps dvs sp) (hr : Room j X.A) (ha : PA X (e :: es) t) (hle : k ≤ j := by decide) (hg : Gl X x := by rfl)
    (hdb : (x == ("__debug__" : Str)) = false := by decide) (he : starEach (e :: es) X.env = (false, eval e X.env) :: starEach es X.env := by rfl) (hpl : (backTo pos (starEach es X.env)).any (·.1) = false := by rfl) :
    PE X (.Call (.Name x p) (e :: es) [] pos) (tCall sp dvs E0 t) := by
  obtain ⟨f, fd, ds, h1, h2, hd, h3, h4⟩ := c
  exact pe_call h4 (hr.mono hle) hg h1 h2 h3 hd passL ha hdb he hpl
def CalXK (P : Program) (w : World) (K : PySem.W.Frag) (mg : Str → Option Value) (base : Heap) (k : Nat) (x : Str) (ps : List Str) (n : Nat) (ks : List Str) (gV : List V → List V → List V) (sp : Sp) : Prop :=
  ∃ (f : Addr) (fd : FuncData) (g : List Value → List Value → List Value), mg x = some (.ref f) ∧ PySem.W.keepIn K (.ref f) = true ∧ KBn K fd ps n ks g gV ∧ FnOk P w K mg base (L2.CX P w) k f fd ps sp
theorem pe_calkx0 {X : Cx} {k j : Nat} {x : Str} {ps ks : List Str} {gV : List V → List V → List V} {sp : Sp} {kws : List Keyword} {tk : TA} {p pos : Pos} (c : CalXK X.prog X.w X.K X.mg X.base k x ps 0 ks gV sp) (hr : Room j X.A)
    (hkw : PK X kws tk) (hle : k ≤ j := by decide) (hg : Gl X x := by rfl) (hall : (backToKw pos (keywordEach kws X.env)).all (·.1.isSome) = true := by rfl) (hks : (backToKw pos (keywordEach kws X.env)).filterMap (·.1) = ks := by rfl)
    (hdb : (x == ("__debug__" : Str)) = false := by decide)
    (hpl : ((backTo pos (starEach [] X.env)).any (·.1) || (backToKw pos (keywordEach kws X.env)).any (·.1.isNone)) = false := by rfl) :
    PE X (.Call (.Name x p) [] kws pos) (tCallN 0 ks.length sp gV E0 tNil tk) := by
  obtain ⟨f, fd, g, h1, h2, h3, h4⟩ := c
  refine ⟨fun pins s σ H Q I h => ?_⟩
  refine wpAny_Call_Name_kw (ld_glob I hg h1 ?_ hdb)
  refine PySem.W.callWith_KW0 (h₀ := X.base) I.ok.mod.kin h2 hall (thn (hkw.run pos pins s σ H _ I h) fun ws s2 ⟨zs, H2, I2, rz, l1, l2, q2⟩ => ⟨I2.kIn, ?_⟩) hpl
  rw [hks]
  exact run_fnN (vs := []) (us := []) h4 (hr.mono hle) h3 passL I2 .nil rz l1 l2 q2
/-- a call whose error a try around it waits for -/
theorem pe_calxS {X : Cx} {k j : Nat} {x : Str} {ps : List Str} {sp : Sp} {e : Expr} {es : List Expr} {t : TA} {p pos : Pos} {W : WX} (c : CalX X.prog X.w X.K X.mg X.base k x ps [] sp) (hr : Room j X.A) (tk : Takes X W) (ha : PA X (e :: es) t) (hle : k ≤ j := by decide) (hg : Gl X x := by rfl)
    (hdb : (x == ("__debug__" : Str)) = false := by decide) (he : starEach (e :: es) X.env = (false, eval e X.env) :: starEach es X.env := by rfl) (hpl : (backTo pos (starEach es X.env)).any (·.1) = false := by rfl) :
    PE X (.Call (.Name x p) (e :: es) [] pos) (tCallS sp (WE W) t) := by
  obtain ⟨f, fd, ds, h1, h2, hd, h3, h4⟩ := c
  cases hd
  exact pe_callS h4 (hr.mono hle) hg h1 h2 h3 (fun σ => passAt tk σ) ha hdb he hpl
end E1

namespace E1
open PySem PySem.Spec PyProof.Rows L2
/-! ### a def of the text that is called by its name -/
def Cal (P : Program) (w : World) (K : PySem.W.Frag) (mg : Str → Option Value) (base : Heap) (k : Nat) (x : Str) (ps : List Str) (sp : Sp) : Prop :=
  ∃ (f : Addr) (fd : FuncData), mg x = some (.ref f) ∧ PySem.W.keepIn K (.ref f) = true ∧ Binds K fd ps [] ∧ FnOk P w K mg base CX0 k f fd ps sp
theorem pe_cal {X : Cx} {k j : Nat} {x : Str} {ps : List Str} {sp : Sp} {e : Expr} {es : List Expr} {t : TA} {p pos : Pos} (c : Cal X.prog X.w X.K X.mg X.base k x ps sp) (hr : Room j X.A) (ha : PA X (e :: es) t) (hle : k ≤ j := by decide) (hg : Gl X x := by rfl)
    (hdb : (x == ("__debug__" : Str)) = false := by decide) (he : starEach (e :: es) X.env = (false, eval e X.env) :: starEach es X.env := by rfl) (hpl : (backTo pos (starEach es X.env)).any (·.1) = false := by rfl) :
    PE X (.Call (.Name x p) (e :: es) [] pos) (tCall sp [] E0 t) := by
  obtain ⟨f, fd, h1, h2, h3, h4⟩ := c
  exact pe_call h4 (hr.mono hle) hg h1 h2 h3 .nil pass0 ha hdb he hpl
/-! ### heaps -/
def SameBut (a : Addr) (H H' : Hp) : Prop := ∀ b o, b ≠ a → H b = some o → H' b = some o
theorem SameBut.refl (a : Addr) (H : Hp) : SameBut a H H := fun _ _ _ h => h
theorem SameBut.trans {a : Addr} {H H1 H2 : Hp} (x : SameBut a H H1) (y : SameBut a H1 H2) : SameBut a H H2 := fun b o n h => y b o n (x b o n h)
theorem SameBut.of {a : Addr} {H H' : Hp} (s : Same H H') : SameBut a H H' := fun b o _ h => s b o h
theorem SameBut.upd {a : Addr} {H : Hp} {o : HO} : SameBut a H (upd H a o) := fun b _ n h => by
  rw [upd_ne n]
  exact h
theorem same_new {H : Hp} {p : Addr} {o : HO} (h : H p = none) : Same H (upd H p o) := fun b x e => by
  rw [upd_ne (ne_of_none e h)]
  exact e
theorem Same.tup {K : PySem.W.Frag} {H H' : Hp} {a : Addr} {xs : List V} (e : Same H H') (h : SqT K H a xs) : SqT K H' a xs := by
  rcases h with (h | ⟨o, h⟩) | h
  · exact .inl (.inl (e _ _ h))
  · exact .inl (.inr ⟨o, e _ _ h⟩)
  · exact .inr h
theorem a0 {α : Type} {x : α} {l : List α} : atI (x :: l) 0 = some x := atI_nat (j := 0) rfl
theorem a1 {α : Type} {x y : α} {l : List α} : atI (x :: y :: l) 1 = some y := atI_nat (j := 1) rfl
theorem a2 {α : Type} {x y z : α} {l : List α} : atI (x :: y :: z :: l) 2 = some z := atI_nat (j := 2) rfl
theorem toB {p : Prop} [Decidable p] (h : decide p = true) : p := of_decide_eq_true h
theorem toNB {p : Prop} [Decidable p] (h : ¬ decide p = true) : ¬ p := fun z => h (decide_eq_true z)
/-- a well: the digits left, a number that is mixed, how many were mixed (at most c) -/
def WellAt (H : Hp) (a : Addr) (c : Int) : Prop := ∃ x y z : Int, H a = some (.lst [.int x, .int y, .int z]) ∧ 0 ≤ y ∧ y < 2147483647 ∧ 0 ≤ z ∧ z ≤ c
theorem WellAt.mono {H : Hp} {a : Addr} {c d : Int} (h : WellAt H a c) (l : c ≤ d) : WellAt H a d := by
  obtain ⟨x, y, z, e, h1, h2, h3, h4⟩ := h
  exact ⟨x, y, z, e, h1, h2, h3, by omega⟩
theorem WellAt.same {H H' : Hp} {a : Addr} {c : Int} (h : WellAt H a c) (s : Same H H') : WellAt H' a c := by
  obtain ⟨x, y, z, e, h1, h2, h3, h4⟩ := h
  exact ⟨x, y, z, s _ _ e, h1, h2, h3, h4⟩
theorem WellAt.but {H H' : Hp} {a b : Addr} {c : Int} (h : WellAt H a c) (s : SameBut b H H') (n : a ≠ b) : WellAt H' a c := by
  obtain ⟨x, y, z, e, h1, h2, h3, h4⟩ := h
  exact ⟨x, y, z, s _ _ n e, h1, h2, h3, h4⟩
/-! ### promises of the law's helpers -/
def spCell (K : PySem.W.Frag) : Sp := fun vs H Q _ => ∃ (a : Addr) (ns : List Int) (k : Nat), vs = [.ref a, .int k] ∧ SqL K H a (ns.map V.int) ∧ Q (.int (ns.getD k 0)) H
def spWell : Sp := fun vs H Q _ => ∃ c : Int, vs = [.int c] ∧ ∀ p : Addr, H p = none → ∀ H', Same H H' → WellAt H' p 0 → Q (.ref p) H'
/-- a number from 0 to below m; the well has at most one more -/
def spDraw : Sp := fun vs H Q _ => ∃ (a : Addr) (c m : Int), vs = [.ref a, .int m] ∧ WellAt H a c ∧ c ≤ 1000000000 ∧ 0 < m ∧ m.natAbs < 2 ^ 9000 ∧
  ∀ (r : Int) (H' : Hp), 0 ≤ r → r < m → SameBut a H H' → (∀ b, H b = none → H' b = none) → WellAt H' a (c + 1) → Q (.int r) H'
def topS (i : Nat) : Stmt := PySem.Challenge.pw_echobound_k05_forms_refused.main.body.getD i (.Pass ⟨0, 0, 0, 0⟩)
abbrev s__wall : Stmt := topS 0
abbrev s_is_whole : Stmt := topS 9
abbrev s_downward : Stmt := topS 11
abbrev s_upward : Stmt := topS 12
abbrev s_inward : Stmt := topS 13
abbrev s_outward : Stmt := topS 14
abbrev s_nearest_greater : Stmt := topS 15
abbrev s_nearest_even : Stmt := topS 16
abbrev s_nearest_far : Stmt := topS 17
abbrev s_is_manner : Stmt := topS 19
abbrev s_is_width : Stmt := topS 25
abbrev s_is_point : Stmt := topS 26
abbrev s_is_ends : Stmt := topS 27
abbrev s__law_cell_at : Stmt := topS 30
abbrev s__law_well : Stmt := topS 31
abbrev s__law_draw : Stmt := topS 32
abbrev s__law_bad_width : Stmt := topS 33
abbrev s__law_bad_point : Stmt := topS 34
abbrev s__law_bad_manner : Stmt := topS 35
abbrev s__law_bad_ends : Stmt := topS 36
abbrev s__law_told : Stmt := topS 37
abbrev s_law : Stmt := topS 38
section
variable {P : Program} {w : World} {K : PySem.W.Frag} {mg : Str → Option Value} {base : Heap}
theorem sc__law_cell_at : FnScope ["_law_script", "_law_k"] ["_law_script", "_law_k"] (defScope s__law_cell_at) := ⟨rfl, rfl, rfl, by decide +kernel, rfl, by decide +kernel, by decide +kernel⟩
theorem sc__law_well : FnScope ["_law_cell"] ["_law_cell"] (defScope s__law_well) := ⟨rfl, rfl, rfl, by decide +kernel, rfl, by decide +kernel, by decide +kernel⟩
theorem sc__law_draw : FnScope ["_law_well_here", "_law_many", "_law_found", "_law_number"] ["_law_well_here", "_law_many"] (defScope s__law_draw) := ⟨rfl, rfl, rfl, by decide +kernel, rfl, by decide +kernel, by decide +kernel⟩
theorem ok_cell {f : Addr} {fd : FuncData} {k : Nat} (F : Fun K "_law_cell_at" "_law_cell_at" s__law_cell_at f fd) (zl : mg "len" = none) : FnOk P w K mg base CX0 (k + 1) f fd ["_law_script", "_law_k"] (spCell K) := by
  refine F.ok sc__law_cell_at (fun vs H Q E h => ?_) (fun cdv A outer s H vs Q E hr h => ?_)
  · obtain ⟨a, ns, k, rfl, _⟩ := h
    rfl
  · obtain ⟨a, ns, k, rfl, hS, q⟩ := h
    refine ⟨_, (pss_cons (ps_if (pt_cmpR op_lt (pv 1) (pe_callB call_len_seq (by rfl) zl PySem.boot_len (pa_cons (pv 0) pa_nil)) (nomark _)) (pss_one (ps_ret (pe_ix ix_list (pv 0) (pv 1) (fun _ _ => rfl)))) pss_nil)
      (pss_one (ps_ret pe_int))), ?_⟩
    refine ⟨_, rfl, _, rfl, a, _, rfl, .inl hS, _, _, rfl, rfl, _, rfl, ite2 (fun c => ?_) (fun c => ?_)⟩
    · have hk : k < ns.length := by
        have := toB c
        rw [List.length_map] at this
        omega
      refine ⟨_, rfl, _, rfl, a, _, k, .int (ns.getD k 0), rfl, rfl, hS, atI_nat ?_, q⟩
      rw [List.getElem?_map, List.getElem?_eq_getElem hk, List.getD_eq_getElem?_getD, List.getElem?_eq_getElem hk]
      rfl
    · have hk : ¬ k < ns.length := fun z => by
        have := toNB c
        rw [List.length_map] at this
        omega
      have e : ns.getD k 0 = 0 := by
        rw [List.getD_eq_getElem?_getD, List.getElem?_eq_none (by omega)]
        rfl
      rw [e] at q
      exact q
theorem ok_well {f : Addr} {fd : FuncData} {k : Nat} (F : Fun K "_law_well" "_law_well" s__law_well f fd) (zi : mg "int" = none) : FnOk P w K mg base CX0 (k + 1) f fd ["_law_cell"] spWell := by
  refine F.ok sc__law_well (fun vs H Q E h => ?_) (fun cdv A outer s H vs Q E hr h => ?_)
  · obtain ⟨c, rfl, _⟩ := h
    rfl
  · obtain ⟨c, rfl, q⟩ := h
    refine ⟨_, (pss_one (ps_ret (pe_lst (pa_cons (pe_op op_mul (pv 0) (pe_callTy call_int1 (by rfl) zi (by decide +kernel) (pa_cons (pe_cmpR op_ge (pv 0) (pe_op op_pow pe_int pe_int) (nomark _)) pa_nil))) (pa_cons (pe_op op_mod (pv 0) pe_int) (pa_cons pe_int pa_nil)))))), ?_⟩
    refine ⟨_, rfl, _, rfl, _, _, rfl, rfl, ⟨by decide, by decide, by decide⟩, _, _, rfl, rfl, .inr ⟨_, rfl, _, _, rfl, rfl, .inr ?_, ?_⟩⟩
    · split <;> decide
    · refine ⟨_, rfl, _, _, rfl, rfl, (by show (0 : Int) < 2147483647; decide), (by show 3 ≤ sizeLine; decide), fun p hp => ?_⟩
      exact q p hp _ (same_new hp) ⟨_, _, _, upd_same, Int.emod_nonneg _ (by decide), Int.emod_lt_of_pos _ (by decide), Int.le_refl _, Int.le_refl _⟩
theorem ok_draw {f : Addr} {fd : FuncData} {k : Nat} (F : Fun K "_law_draw" "_law_draw" s__law_draw f fd) : FnOk P w K mg base CX0 (k + 1) f fd ["_law_well_here", "_law_many"] spDraw := by
  refine F.ok sc__law_draw (fun vs H Q E h => ?_) (fun cdv A outer s H vs Q E hr h => ?_)
  · obtain ⟨a, c, m, rfl, _⟩ := h
    rfl
  · obtain ⟨a, c, m, rfl, ⟨x, y, z, hw, y0, y1, z0, z1⟩, hc, m0, m1, q⟩ := h
    have fr : ∀ o b, H b = none → (upd H a o) b = none := fun o b hb => by
      rw [upd_ne (fun e => by rw [e, hw] at hb; cases hb)]
      exact hb
    refine ⟨_, (pss_cons (ps_if (pt_cmpR op_gt (pe_ix ix_list (pv 0) pe_int (fun _ _ => rfl)) pe_int (nomark _)) (pss_cons (ps_set (i := 2) sc__law_draw.nd rfl (.inl rfl) (pe_op op_mod (pe_ix ix_list (pv 0) pe_int (fun _ _ => rfl)) (pv 1)))
      (pss_cons (ps_asg (pe_op op_fdivW (pe_ix ix_list (pv 0) pe_int (fun _ _ => rfl)) (pv 1)) (pg_sub (pv 0) pe_int set_list))
      (pss_one (ps_ret (pv 2))))) pss_nil)
      (pss_cons (ps_asg (pe_op op_add (pe_ix ix_list (pv 0) pe_int (fun _ _ => rfl)) pe_int) (pg_sub (pv 0) pe_int set_list))
      (pss_cons (ps_set (i := 3) sc__law_draw.nd rfl (.inl rfl) (pe_op op_mod (pe_op op_pow (pe_op op_add (pe_op op_add (pe_ix ix_list (pv 0) pe_int (fun _ _ => rfl)) (pe_op op_mul pe_int (pe_ix ix_list (pv 0) pe_int (fun _ _ => rfl)))) pe_int) pe_int) pe_int))
      (pss_cons (ps_set (i := 3) sc__law_draw.nd rfl (.inl rfl) (pe_op op_mod (pe_op op_mul (pv 3) (pe_op op_add (pe_op op_fdiv (pv 3) pe_int) pe_int)) pe_int))
      (pss_one (ps_ret (pe_op op_mod (pe_op op_mod (pe_op op_mul (pv 3) (pe_op op_add (pe_op op_fdiv (pv 3) pe_int) pe_int)) pe_int) (pv 1)))))))), ?_⟩
    refine ⟨_, rfl, a, _, 0, .int x, rfl, rfl, SqL.of hw, a0, x, 0, rfl, rfl, _, rfl, ite2 (fun c => ?_) (fun c => ?_)⟩
    · refine ⟨_, rfl, a, _, 0, .int x, rfl, rfl, SqL.of hw, a0, _, rfl, x, m, rfl, rfl, m0, ?_⟩
      refine ⟨_, rfl, a, _, 0, .int x, rfl, rfl, SqL.of hw, a0, _, rfl, x, m, rfl, rfl, wide_div m0 m1 (by decide) (Nat.le_refl _), _, rfl, a, _, 0, 0, rfl, rfl, hw, rfl, ?_⟩
      refine ⟨_, rfl, q _ _ (Int.emod_nonneg _ (by omega)) (Int.emod_lt_of_pos _ m0) SameBut.upd (fr _) ⟨_, _, _, upd_same, y0, y1, z0, by omega⟩⟩
    · refine ⟨_, rfl, a, _, 2, .int z, rfl, rfl, SqL.of hw, a2, z, 1, rfl, rfl, _, rfl, a, _, 2, 2, rfl, rfl, hw, rfl, ?_⟩
      have hw2 : (upd H a (.lst [V.int x, V.int y, V.int (z + 1)])) a = some (.lst [V.int x, V.int y, V.int (z + 1)]) := upd_same
      have n5 : 0 ≤ y + 7919 * (z + 1) + 1 ∧ y + 7919 * (z + 1) + 1 < 18446744073709551616 := by omega
      refine ⟨_, rfl, a, _, 1, .int y, rfl, rfl, SqL.of hw2, a1, _, rfl, a, _, 2, .int (z + 1), rfl, rfl, SqL.of hw2, a2, _, _, rfl, rfl, .inl ⟨by decide, by decide⟩, _, _, rfl, rfl, _, _, rfl, rfl, _, _, rfl, rfl, ⟨by decide, by decide, ?_⟩, _, _, rfl, rfl, (by show (0 : Int) < 2147483647; decide), ?_⟩
      · show (y + 7919 * (z + 1) + 1).natAbs < 18446744073709551616
        omega
      · generalize hn : (y + 7919 * (z + 1) + 1) ^ (5 : Int).toNat % 2147483647 = n
        have n0 : 0 ≤ n := by rw [← hn]; exact Int.emod_nonneg _ (by decide)
        have n1 : n < 2147483647 := by rw [← hn]; exact Int.emod_lt_of_pos _ (by decide)
        refine ⟨_, rfl, _, rfl, _, _, rfl, rfl, ⟨by decide, by decide⟩, _, _, rfl, rfl, _, _, rfl, rfl, .inl ⟨by omega, by omega⟩, _, _, rfl, rfl, (by show (0 : Int) < 2147483629; decide), ?_⟩
        generalize hm : n * (n / 1009 + 69621) % 2147483629 = u
        have u0 : 0 ≤ u := by rw [← hm]; exact Int.emod_nonneg _ (by decide)
        have u1 : u < 2147483629 := by rw [← hm]; exact Int.emod_lt_of_pos _ (by decide)
        refine ⟨_, rfl, _, rfl, _, _, rfl, rfl, ⟨by decide, by decide⟩, _, _, rfl, rfl, _, _, rfl, rfl, .inl ⟨by omega, by omega⟩, _, _, rfl, rfl, (by show (0 : Int) < 2147483587; decide), _, rfl, _, _, rfl, rfl, m0, ?_⟩
        exact q _ _ (Int.emod_nonneg _ (by omega)) (Int.emod_lt_of_pos _ m0) SameBut.upd (fr _) ⟨_, _, _, upd_same, y0, y1, by omega, by omega⟩
end
end E1

namespace E1
open PySem PySem.Spec PyProof.Rows L2

def CalD (P : Program) (w : World) (K : PySem.W.Frag) (mg : Str → Option Value) (base : Heap) (k : Nat) (x : Str) (ps : List Str) (dvs : List V) (sp : Sp) : Prop :=
  ∃ (f : Addr) (fd : FuncData) (ds : List Value), mg x = some (.ref f) ∧ PySem.W.keepIn K (.ref f) = true ∧ Vals dvs ds ∧ Binds K fd ps ds ∧ FnOk P w K mg base CX0 k f fd ps sp
theorem pe_cald {X : Cx} {k j : Nat} {x : Str} {ps : List Str} {dvs : List V} {sp : Sp} {e : Expr} {es : List Expr} {t : TA} {p pos : Pos} (c : CalD X.prog X.w X.K X.mg X.base k x ps dvs sp) (hr : Room j X.A) (ha : PA X (e :: es) t) (hle : k ≤ j := by decide) (hg : Gl X x := by rfl)
    (hdb : (x == ("__debug__" : Str)) = false := by decide) (he : starEach (e :: es) X.env = (false, eval e X.env) :: starEach es X.env := by rfl) (hpl : (backTo pos (starEach es X.env)).any (·.1) = false := by rfl) :
    PE X (.Call (.Name x p) (e :: es) [] pos) (tCall sp dvs E0 t) := by
  obtain ⟨f, fd, ds, h1, h2, hd, h3, h4⟩ := c
  exact pe_call h4 (hr.mono hle) hg h1 h2 h3 hd pass0 ha hdb he hpl
def CalK (P : Program) (w : World) (K : PySem.W.Frag) (mg : Str → Option Value) (base : Heap) (k : Nat) (x : Str) (ps : List Str) (n : Nat) (ks : List Str) (gV : List V → List V → List V) (sp : Sp) : Prop :=
  ∃ (f : Addr) (fd : FuncData) (g : List Value → List Value → List Value), mg x = some (.ref f) ∧ PySem.W.keepIn K (.ref f) = true ∧ KBn K fd ps n ks g gV ∧ FnOk P w K mg base CX0 k f fd ps sp
theorem pe_calk {X : Cx} {k j n : Nat} {x : Str} {ps ks : List Str} {gV : List V → List V → List V} {sp : Sp} {e : Expr} {es : List Expr} {kws : List Keyword} {t tk : TA} {p pos : Pos} (c : CalK X.prog X.w X.K X.mg X.base k x ps n ks gV sp) (hr : Room j X.A)
    (ha : PA X (e :: es) t) (hkw : PK X kws tk) (hle : k ≤ j := by decide) (hg : Gl X x := by rfl) (hall : (backToKw pos (keywordEach kws X.env)).all (·.1.isSome) = true := by rfl) (hks : (backToKw pos (keywordEach kws X.env)).filterMap (·.1) = ks := by rfl)
    (hdb : (x == ("__debug__" : Str)) = false := by decide) (he : starEach (e :: es) X.env = (false, eval e X.env) :: starEach es X.env := by rfl)
    (hpl : ((backTo pos (starEach (e :: es) X.env)).any (·.1) || (backToKw pos (keywordEach kws X.env)).any (·.1.isNone)) = false := by rfl) :
    PE X (.Call (.Name x p) (e :: es) kws pos) (tCallN n ks.length sp gV E0 t tk) := by
  obtain ⟨f, fd, g, h1, h2, h3, h4⟩ := c
  exact pe_callN h4 (hr.mono hle) hg h1 h2 h3 pass0 ha hkw hall hks hdb he hpl
theorem pe_calk0 {X : Cx} {k j : Nat} {x : Str} {ps ks : List Str} {gV : List V → List V → List V} {sp : Sp} {kws : List Keyword} {tk : TA} {p pos : Pos} (c : CalK X.prog X.w X.K X.mg X.base k x ps 0 ks gV sp) (hr : Room j X.A)
    (hkw : PK X kws tk) (hle : k ≤ j := by decide) (hg : Gl X x := by rfl) (hall : (backToKw pos (keywordEach kws X.env)).all (·.1.isSome) = true := by rfl) (hks : (backToKw pos (keywordEach kws X.env)).filterMap (·.1) = ks := by rfl)
    (hdb : (x == ("__debug__" : Str)) = false := by decide)
    (hpl : ((backTo pos (starEach [] X.env)).any (·.1) || (backToKw pos (keywordEach kws X.env)).any (·.1.isNone)) = false := by rfl) :
    PE X (.Call (.Name x p) [] kws pos) (tCallN 0 ks.length sp gV E0 tNil tk) := by
  obtain ⟨f, fd, g, h1, h2, h3, h4⟩ := c
  refine ⟨fun pins s σ H Q I h => ?_⟩
  refine wpAny_Call_Name_kw (ld_glob I hg h1 ?_ hdb)
  refine PySem.W.callWith_KW0 (h₀ := X.base) I.ok.mod.kin h2 hall (thn (hkw.run pos pins s σ H _ I h) fun ws s2 ⟨zs, H2, I2, rz, l1, l2, q2⟩ => ⟨I2.kIn, ?_⟩) hpl
  rw [hks]
  exact run_fnN (vs := []) (us := []) h4 (hr.mono hle) h3 pass0 I2 .nil rz l1 l2 q2
/-- a class handed to isinstance -/
theorem isiB {K : PySem.W.Frag} {H : Hp} {x : V} {a b : String} {r : Bool} {Q : VK} (ty : TyX K H x (.type a)) (k : kitB a b = some r) (q : Q (.bl r) H) : rIsi K [x, .ty b] H Q :=
  ⟨x, .ty b, .type a, .type b, r, rfl, .ty _, ty, kit_ty k, q⟩
/-- whether a thing is a whole number -/
def WholeIs (K : PySem.W.Frag) (H : Hp) (x : V) (b : Bool) : Prop := (∃ i, x = .int i ∧ b = true) ∨ (∃ c, x = .bl c ∧ b = false) ∨ (b = false ∧ ∃ t : String, TyX K H x (.type t) ∧ kitB t "int" = some false)
theorem WholeIs.int {K : PySem.W.Frag} {H : Hp} (i : Int) : WholeIs K H (.int i) true := .inl ⟨i, rfl, rfl⟩
def spWhole (K : PySem.W.Frag) : Sp := fun vs H Q _ => ∃ (x : V) (b : Bool), vs = [x] ∧ WholeIs K H x b ∧ Q (.bl b) H
/-! ### the mathematics of fractions in lowest terms -/
def gI (t b : Int) : Int := (Int.gcd t b : Nat)
def lowT (t b : Int) : Int := (if b < 0 then -t else t) / gI t b
def lowB (t b : Int) : Int := (if b < 0 then -b else b) / gI t b
theorem gI_neg (t b : Int) : gI (-t) (-b) = gI t b := by
  unfold gI
  rw [Int.neg_gcd, Int.gcd_neg]
theorem gI_pos {t b : Int} (h : b ≠ 0) : 0 < gI t b := by
  have : 0 < Int.gcd t b := Int.gcd_pos_of_ne_zero_right t h
  unfold gI
  omega
theorem gI_le {t b : Int} (h : b ≠ 0) : (gI t b).natAbs ≤ b.natAbs := by
  have d : Int.gcd t b ∣ b.natAbs := Nat.gcd_dvd_right t.natAbs b.natAbs
  have := Nat.le_of_dvd (by omega) d
  unfold gI
  omega
def spShared : Sp := fun vs H Q _ => ∃ t b : Int, vs = [.int t, .int b] ∧ 0 ≤ b ∧ Q (.int (gI t b)) H
def spLow : Sp := fun vs H Q _ => ∃ t b : Int, vs = [.int t, .int b] ∧ b ≠ 0 ∧ b.natAbs < 2 ^ 4000 ∧ ∀ p, H p = none → Q (.ref p) (upd H p (.tup [.int (lowT t b), .int (lowB t b)]))
/-- two fractions at two places; the tops and bottoms told by f and d -/
def spTwo (K : PySem.W.Frag) (pre : Int → Int → Int → Int → Prop) (f d : Int → Int → Int → Int → Int) : Sp := fun vs H Q _ => ∃ (a c : Addr) (t u v x : Int), vs = [.ref a, .ref c] ∧ SqT K H a [.int t, .int u] ∧ SqT K H c [.int v, .int x] ∧
  pre t u v x ∧ 0 < u ∧ 0 < x ∧ t.natAbs < 2 ^ 1900 ∧ u.natAbs < 2 ^ 1900 ∧ v.natAbs < 2 ^ 1900 ∧ x.natAbs < 2 ^ 1900 ∧ ∀ p, H p = none → Q (.ref p) (upd H p (.tup [.int (lowT (f t u v x) (d t u v x)), .int (lowB (f t u v x) (d t u v x))]))
def spUnder (K : PySem.W.Frag) : Sp := fun vs H Q _ => ∃ (a c : Addr) (t u v x : Int), vs = [.ref a, .ref c] ∧ SqT K H a [.int t, .int u] ∧ SqT K H c [.int v, .int x] ∧
  t.natAbs < 2 ^ 1900 ∧ u.natAbs < 2 ^ 1900 ∧ v.natAbs < 2 ^ 1900 ∧ x.natAbs < 2 ^ 1900 ∧ Q (.bl (decide (t * x < v * u))) H
def absI (t : Int) : Int := if t < 0 then -t else t
def spSize (K : PySem.W.Frag) : Sp := fun vs H Q _ => ∃ (a : Addr) (t u : Int), vs = [.ref a] ∧ SqT K H a [.int t, .int u] ∧ ∀ p, H p = none → Q (.ref p) (upd H p (.tup [.int (absI t), .int u]))
def twoT (m : Int) : Int := if m < 0 then 1 else 2 ^ m.toNat
def twoB (m : Int) : Int := if m < 0 then 2 ^ (-m).toNat else 1
def spTwoTo : Sp := fun vs H Q _ => ∃ m : Int, vs = [.int m] ∧ -400 ≤ m ∧ m ≤ 400 ∧ ∀ p, H p = none → Q (.ref p) (upd H p (.tup [.int (twoT m), .int (twoB m)]))
def spIsFrac : Sp := fun vs H Q _ => ∃ (a : Addr) (t u : Int), vs = [.ref a] ∧ H a = some (.tup [.int t, .int u]) ∧ 1 ≤ u ∧ Q (.bl (decide (gI t u = 1))) H
theorem up {x : Nat} {a b : Nat} (h : x < 2 ^ a) (l : a ≤ b) : x < 2 ^ b := Nat.lt_of_lt_of_le h (Nat.pow_le_pow_right (by decide) l)
theorem up2 {x y : Nat} {a b : Nat} (h : x ≤ y) (h2 : y < 2 ^ a) (l : a ≤ b) : x < 2 ^ b := Nat.lt_of_le_of_lt h (up h2 l)
theorem same_but {H H1 H2 : Hp} {p : Addr} (s : Same H H1) (b : SameBut p H1 H2) (hp : H p = none) : Same H H2 := fun a o e => b a o (ne_of_none e hp) (s a o e)
structure Zs (mg : Str → Option Value) : Prop where
  isinstance : mg "isinstance" = none
  int : mg "int" = none
  bool : mg "bool" = none
  str : mg "str" = none
  abs : mg "abs" = none
  len : mg "len" = none
  min : mg "min" = none
section
variable {P : Program} {w : World} {K : PySem.W.Frag} {mg : Str → Option Value} {base : Heap}
theorem sc_is_whole : FnScope ["thing"] ["thing"] (defScope s_is_whole) := ⟨rfl, rfl, rfl, by decide +kernel, rfl, by decide +kernel, by decide +kernel⟩
theorem ok_is_whole {f : Addr} {fd : FuncData} {k : Nat} (F : Fun K "is_whole" "is_whole" s_is_whole f fd) (z : Zs mg) : FnOk P w K mg base CX0 (k + 1) f fd ["thing"] (spWhole K) := by
  refine F.ok sc_is_whole (fun vs H Q E h => ?_) (fun cdv A outer s H vs Q E hr h => ?_)
  · obtain ⟨x, b, rfl, _⟩ := h
    rfl
  · obtain ⟨x, b, rfl, hw, q⟩ := h
    refine ⟨_, (pss_one (ps_ret (pe_and (pe_callB call_isi (by rfl) z.isinstance (by decide +kernel) (pa_cons (pv 0) (pa_cons (pe_bltn (v := .ty "int") (by rfl) z.int (by decide +kernel) rfl) pa_nil))) (pe_one (pe_not (pe_callB call_isi (by rfl) z.isinstance (by decide +kernel) (pa_cons (pv 0) (pa_cons (pe_bltn (v := .ty "bool") (by rfl) z.bool (by decide +kernel) rfl) pa_nil)))))))), ?_⟩
    rcases hw with ⟨i, rfl, rfl⟩ | ⟨c, rfl, rfl⟩ | ⟨rfl, t, ty, kt⟩
    · exact ⟨_, rfl, _, .ty "int", _, _, true, rfl, .ty _, .base (.int i), kit_ty (by decide +kernel), _, rfl, iteT ⟨_, rfl, _, .ty "bool", _, _, false, rfl, .ty _, .base (.int i), kit_ty (by decide +kernel), _, rfl, q⟩⟩
    · exact ⟨_, rfl, _, .ty "int", _, _, true, rfl, .ty _, .base (.bl c), kit_ty (by decide +kernel), _, rfl, iteT ⟨_, rfl, _, .ty "bool", _, _, true, rfl, .ty _, .base (.bl c), kit_ty (by decide +kernel), _, rfl, q⟩⟩
    · exact ⟨_, rfl, _, .ty "int", _, _, false, rfl, .ty _, ty, kit_ty kt, _, rfl, iteF q⟩
end
end E1

namespace E1
open PySem PySem.Spec PyProof.Rows L2
/-! ### the seven manners -/
inductive Mn where
  | down | up | inn | out | half | even | far
def Mn.str : Mn → Str
  | .down => "down"
  | .up => "up"
  | .inn => "in"
  | .out => "out"
  | .half => "half"
  | .even => "even"
  | .far => "far"
def fDown (t b : Int) : Int := t / b
def fUp (t b : Int) : Int := -(-t / b)
def fHalf (t b : Int) : Int := (2 * t + b) / (2 * b)
def fEven (t b : Int) : Int := if 2 * (fHalf t b * b - t) = b ∧ fHalf t b % 2 ≠ 0 then fHalf t b - 1 else fHalf t b
def fFar (t b : Int) : Int := if t > 0 then fHalf t b else -(fHalf (-t) b)
def fIn (t b : Int) : Int := if t > 0 then fDown t b else fUp t b
def fOut (t b : Int) : Int := if t > 0 then fUp t b else fDown t b
def Mn.f : Mn → Int → Int → Int
  | .down => fDown
  | .up => fUp
  | .inn => fIn
  | .out => fOut
  | .half => fHalf
  | .even => fEven
  | .far => fFar
def lawR (m : Mn) (t b : Int) : Int :=
  match m with
  | .down => t / b
  | .up => if t % b = 0 then t / b else t / b + 1
  | .inn => if t % b = 0 then t / b else t / b + (if t < 0 then 1 else 0)
  | .out => if t % b = 0 then t / b else t / b + (if t > 0 then 1 else 0)
  | .half => if 2 * (t % b) < b then t / b else t / b + 1
  | .even => if 2 * (t % b) < b then t / b else if b < 2 * (t % b) then t / b + 1 else t / b + t / b % 2
  | .far => if 2 * (t % b) < b then t / b else if b < 2 * (t % b) then t / b + 1 else t / b + (if t > 0 then 1 else 0)
theorem div_is {t b q : Int} (hb : 0 < b) (h1 : q * b ≤ t) (h2 : t < q * b + b) : t / b = q := by
  have a1 : q ≤ t / b := Int.le_ediv_of_mul_le hb h1
  have a2 : t / b < q + 1 := Int.ediv_lt_of_lt_mul hb (by rw [Int.add_mul, Int.one_mul]; exact h2)
  omega
theorem dm (t : Int) {b : Int} (hb : 0 < b) : t = t / b * b + t % b ∧ 0 ≤ t % b ∧ t % b < b := by
  refine ⟨?_, Int.emod_nonneg _ (by omega), Int.emod_lt_of_pos _ hb⟩
  have := Int.mul_ediv_add_emod t b
  rw [Int.mul_comm] at this
  omega
theorem fUp_is {t b : Int} (hb : 0 < b) : fUp t b = if t % b = 0 then t / b else t / b + 1 := by
  obtain ⟨e, r0, r1⟩ := dm t hb
  unfold fUp
  generalize t / b = q at *
  generalize t % b = r at *
  split
  · rename_i h
    have := div_is (t := -t) (q := -q) hb (by rw [Int.neg_mul]; omega) (by rw [Int.neg_mul]; omega)
    rw [this]
    omega
  · rename_i h
    have := div_is (t := -t) (q := -q - 1) hb (by rw [Int.sub_mul, Int.neg_mul, Int.one_mul]; omega) (by rw [Int.sub_mul, Int.neg_mul, Int.one_mul]; omega)
    rw [this]
    omega
theorem fHalf_is {t b : Int} (hb : 0 < b) : fHalf t b = if 2 * (t % b) < b then t / b else t / b + 1 := by
  obtain ⟨e, r0, r1⟩ := dm t hb
  unfold fHalf
  generalize t / b = q at *
  generalize t % b = r at *
  have e2 : q * (2 * b) = 2 * (q * b) := Int.mul_left_comm q 2 b
  split
  · rename_i h
    exact div_is (by omega) (by rw [e2]; omega) (by rw [e2]; omega)
  · rename_i h
    exact div_is (by omega) (by rw [Int.add_mul, e2, Int.one_mul]; omega) (by rw [Int.add_mul, e2, Int.one_mul]; omega)
theorem fHalf_neg {t b : Int} (hb : 0 < b) : -(fHalf (-t) b) = if b < 2 * (t % b) then t / b + 1 else t / b := by
  obtain ⟨e, r0, r1⟩ := dm t hb
  unfold fHalf
  generalize t / b = q at *
  generalize t % b = r at *
  have e2 : q * (2 * b) = 2 * (q * b) := Int.mul_left_comm q 2 b
  split
  · rename_i h
    have := div_is (t := 2 * -t + b) (b := 2 * b) (q := -q - 1) (by omega) (by rw [Int.sub_mul, Int.neg_mul, e2, Int.one_mul]; omega) (by rw [Int.sub_mul, Int.neg_mul, e2, Int.one_mul]; omega)
    rw [this]
    omega
  · rename_i h
    have := div_is (t := 2 * -t + b) (b := 2 * b) (q := -q) (by omega) (by rw [Int.neg_mul, e2]; omega) (by rw [Int.neg_mul, e2]; omega)
    rw [this]
    omega
theorem fEven_is {t b : Int} (hb : 0 < b) : fEven t b = lawR .even t b := by
  obtain ⟨e, r0, r1⟩ := dm t hb
  unfold fEven
  rw [fHalf_is hb]
  show _ = if 2 * (t % b) < b then t / b else if b < 2 * (t % b) then t / b + 1 else t / b + t / b % 2
  generalize t / b = q at *
  generalize t % b = r at *
  by_cases h : 2 * r < b
  · rw [if_pos h, if_pos h, if_neg (by intro z; omega)]
  · rw [if_neg h, if_neg h, Int.add_mul, Int.one_mul]
    by_cases h2 : b < 2 * r
    · rw [if_pos h2, if_neg (by intro z; omega)]
    · rw [if_neg h2]
      by_cases h3 : (q + 1) % 2 ≠ 0
      · rw [if_pos ⟨by omega, h3⟩]
        omega
      · rw [if_neg (fun z => h3 z.2)]
        omega
theorem f_lawR (m : Mn) {t b : Int} (hb : 0 < b) : m.f t b = lawR m t b := by
  obtain ⟨e, r0, r1⟩ := dm t hb
  cases m with
  | down => rfl
  | up => exact fUp_is hb
  | inn =>
    show fIn t b = if t % b = 0 then t / b else t / b + (if t < 0 then 1 else 0)
    unfold fIn fDown
    rw [fUp_is hb]
    by_cases h : t > 0
    · rw [if_pos h, if_neg (show ¬ t < 0 by omega)]
      split <;> omega
    · rw [if_neg h]
      by_cases h2 : t < 0
      · rw [if_pos h2]
      · have h3 : t = 0 := by omega
        rw [if_neg h2, h3]
        simp
  | out =>
    show fOut t b = if t % b = 0 then t / b else t / b + (if t > 0 then 1 else 0)
    unfold fOut fDown
    rw [fUp_is hb]
    by_cases h : t > 0
    · rw [if_pos h, if_pos h]
    · rw [if_neg h, if_neg h]
      split <;> omega
  | half => exact fHalf_is hb
  | even => exact fEven_is hb
  | far =>
    show fFar t b = if 2 * (t % b) < b then t / b else if b < 2 * (t % b) then t / b + 1 else t / b + (if t > 0 then 1 else 0)
    unfold fFar
    rw [fHalf_is hb, fHalf_neg hb]
    by_cases h : t > 0
    · rw [if_pos h, if_pos h]
      split
      · rfl
      · split <;> rfl
    · rw [if_neg h, if_neg h]
      by_cases h2 : 2 * (t % b) < b
      · rw [if_pos h2, if_neg (show ¬ b < 2 * (t % b) by omega)]
      · rw [if_neg h2]
        split <;> omega
theorem lt_g {x y g : Int} (hg : 0 < g) : x * g < y * g ↔ x < y := ⟨fun h => Int.lt_of_mul_lt_mul_right h (Int.le_of_lt hg), fun h => Int.mul_lt_mul_of_pos_right h hg⟩
theorem lawR_mul (m : Mn) {t b g : Int} (hb : 0 < b) (hg : 0 < g) : lawR m (t * g) (b * g) = lawR m t b := by
  have e1 : t * g / (b * g) = t / b := Int.mul_ediv_mul_of_pos_left _ _ hg
  have e2 : t * g % (b * g) = t % b * g := by
    rw [Int.mul_comm t g, Int.mul_comm b g, Int.mul_emod_mul_of_pos _ _ hg, Int.mul_comm]
  have c0 : t % b * g = 0 ↔ t % b = 0 := by
    constructor
    · intro h
      rcases Int.mul_eq_zero.mp h with h | h
      · exact h
      · omega
    · intro h
      rw [h, Int.zero_mul]
  have c1 : t * g < 0 ↔ t < 0 := by
    have := lt_g (x := t) (y := 0) hg
    rw [Int.zero_mul] at this
    exact this
  have c2 : t * g > 0 ↔ t > 0 := by
    have := lt_g (x := 0) (y := t) hg
    rw [Int.zero_mul] at this
    exact this
  have c3 : 2 * (t % b * g) < b * g ↔ 2 * (t % b) < b := by
    rw [← Int.mul_assoc]
    exact lt_g hg
  have c4 : b * g < 2 * (t % b * g) ↔ b < 2 * (t % b) := by
    rw [← Int.mul_assoc]
    exact lt_g hg
  cases m <;> simp only [lawR, e1, e2, c0, c1, c2, c3, c4]
theorem lawR_eq (m : Mn) {t b x y : Int} (hb : 0 < b) (hy : 0 < y) (h : x * b = t * y) : lawR m x y = lawR m t b := by
  rw [← lawR_mul m hy hb, h, Int.mul_comm y b, lawR_mul m hb hy]
/-- how far off -/
theorem lawR_off (m : Mn) {t b : Int} (hb : 0 < b) : -b ≤ lawR m t b * b - t ∧ lawR m t b * b - t ≤ b := by
  obtain ⟨e, r0, r1⟩ := dm t hb
  have key : ∀ q' : Int, (q' = t / b ∨ q' = t / b + 1) → -b ≤ q' * b - t ∧ q' * b - t ≤ b := fun q' h => by
    generalize t / b = q at *
    generalize t % b = r at *
    rcases h with rfl | rfl
    · omega
    · rw [Int.add_mul, Int.one_mul]
      omega
  refine key _ ?_
  clear key
  cases m <;> simp only [lawR] <;> (generalize t / b = q at *) <;> (repeat' split) <;> (first | omega | exact .inl trivial)
theorem lawR_near {m : Mn} {t b : Int} (hb : 0 < b) (hm : m = .half ∨ m = .even ∨ m = .far) : -b ≤ 2 * (lawR m t b * b - t) ∧ 2 * (lawR m t b * b - t) ≤ b := by
  obtain ⟨e, r0, r1⟩ := dm t hb
  have key : ∀ q' : Int, ((q' = t / b ∧ 2 * (t % b) ≤ b) ∨ (q' = t / b + 1 ∧ b ≤ 2 * (t % b))) → -b ≤ 2 * (q' * b - t) ∧ 2 * (q' * b - t) ≤ b := fun q' h => by
    generalize t / b = q at *
    generalize t % b = r at *
    rcases h with ⟨rfl, h⟩ | ⟨rfl, h⟩
    · omega
    · rw [Int.add_mul, Int.one_mul]
      omega
  refine key _ ?_
  clear key
  rcases hm with rfl | rfl | rfl <;> simp only [lawR] <;> (generalize t / b = q at *) <;> (repeat' split) <;> omega

def spRnd (g : Int → Int → Int) : Sp := fun vs H Q _ => ∃ t b : Int, vs = [.int t, .int b] ∧ 0 < b ∧ t.natAbs < 2 ^ 4000 ∧ b.natAbs < 2 ^ 4000 ∧ Q (.int (g t b)) H
structure Mans (P : Program) (w : World) (K : PySem.W.Frag) (mg : Str → Option Value) (base : Heap) (dM : Addr) (es : Array DictEntry) (n : Nat) : Prop where
  gm : mg "MANNERS" = some (.ref dM)
  D : KDict K w dM es n
  at_ : ∀ m : Mn, ∃ (f : Addr) (fd : FuncData), PySem.W.nsIn K dM m.str = some (some (.ref f)) ∧ PySem.W.keepIn K (.ref f) = true ∧ Binds K fd ["top", "bottom"] [] ∧ FnOk P w K mg base CX0 2 f fd ["top", "bottom"] (spRnd m.f)
/-- whether a thing is a manner -/
def MannerIs (K : PySem.W.Frag) (H : Hp) (dM : Addr) (x : V) (b : Bool) : Prop := (∃ m : Mn, x = .str m.str ∧ b = true) ∨ (∃ z : Str, x = .str z ∧ PySem.W.nsIn K dM z = some none ∧ b = false) ∨ (b = false ∧ ∃ t : String, TyX K H x (.type t) ∧ kitB t "str" = some false)
def spManner (K : PySem.W.Frag) (dM : Addr) : Sp := fun vs H Q _ => ∃ (x : V) (b : Bool), vs = [x] ∧ MannerIs K H dM x b ∧ Q (.bl b) H
def spRounded (K : PySem.W.Frag) : Sp := fun vs H Q _ => ∃ (a : Addr) (m : Mn) (t b : Int), vs = [.ref a, .str m.str] ∧ SqT K H a [.int t, .int b] ∧ 0 < b ∧ t.natAbs < 2 ^ 4000 ∧ b.natAbs < 2 ^ 4000 ∧ Q (.int (m.f t b)) H
theorem two_b {b : Int} (h : b.natAbs < 2 ^ 4000) : (2 * b).natAbs < 2 ^ 4001 := by
  rw [Int.natAbs_mul, Nat.pow_succ, Nat.mul_comm]
  exact Nat.mul_lt_mul_of_pos_right h (by decide)
theorem half_le {t b : Int} (ht : t.natAbs < 2 ^ 4000) (hb : b.natAbs < 2 ^ 4000) : (fHalf t b).natAbs < 2 ^ 4003 := by
  unfold fHalf
  refine Nat.lt_of_le_of_lt (Int.natAbs_ediv_le_natAbs _ _) ?_
  have h1 : (2 * t + b).natAbs ≤ 2 * t.natAbs + b.natAbs := by omega
  have e : 2 ^ 4003 = 2 ^ 4000 * 8 := Nat.pow_add 2 4000 3
  rw [e]
  generalize 2 ^ 4000 = N at *
  omega
section
variable {P : Program} {w : World} {K : PySem.W.Frag} {mg : Str → Option Value} {base : Heap}
theorem sc_downward : FnScope ["top", "bottom"] ["top", "bottom"] (defScope s_downward) := ⟨rfl, rfl, rfl, by decide +kernel, rfl, by decide +kernel, by decide +kernel⟩
theorem ok_downward {f : Addr} {fd : FuncData} {k : Nat} (F : Fun K "downward" "downward" s_downward f fd) : FnOk P w K mg base CX0 (k + 1) f fd ["top", "bottom"] (spRnd fDown) := by
  refine F.ok sc_downward (fun vs H Q E h => ?_) (fun cdv A outer s H vs Q E hr h => ?_)
  · obtain ⟨t, b, rfl, _⟩ := h
    rfl
  · obtain ⟨t, b, rfl, hb, ht, hl, q⟩ := h
    refine ⟨_, (pss_one (ps_ret (pe_op op_fdivW (pv 0) (pv 1)))), ?_⟩
    exact ⟨_, rfl, _, rfl, _, _, rfl, rfl, wide_div hb hl (by decide) (by decide), q⟩
theorem sc_upward : FnScope ["top", "bottom"] ["top", "bottom"] (defScope s_upward) := ⟨rfl, rfl, rfl, by decide +kernel, rfl, by decide +kernel, by decide +kernel⟩
theorem ok_upward {f : Addr} {fd : FuncData} {k : Nat} (F : Fun K "upward" "upward" s_upward f fd) : FnOk P w K mg base CX0 (k + 1) f fd ["top", "bottom"] (spRnd fUp) := by
  refine F.ok sc_upward (fun vs H Q E h => ?_) (fun cdv A outer s H vs Q E hr h => ?_)
  · obtain ⟨t, b, rfl, _⟩ := h
    rfl
  · obtain ⟨t, b, rfl, hb, ht, hl, q⟩ := h
    refine ⟨_, (pss_one (ps_ret (pe_un un_neg (pe_op op_fdivW (pe_un un_neg (pv 0)) (pv 1))))), ?_⟩
    exact ⟨_, rfl, _, rfl, _, rfl, _, _, rfl, rfl, wide_div hb hl (by decide) (by decide), _, rfl, q⟩
theorem sc_inward : FnScope ["top", "bottom"] ["top", "bottom"] (defScope s_inward) := ⟨rfl, rfl, rfl, by decide +kernel, rfl, by decide +kernel, by decide +kernel⟩
theorem ok_inward {f : Addr} {fd : FuncData} (F : Fun K "inward" "inward" s_inward f fd) (c_downward : Cal P w K mg base 1 "downward" ["top", "bottom"] (spRnd fDown)) (c_upward : Cal P w K mg base 1 "upward" ["top", "bottom"] (spRnd fUp)) : FnOk P w K mg base CX0 2 f fd ["top", "bottom"] (spRnd fIn) := by
  refine F.ok sc_inward (fun vs H Q E h => ?_) (fun cdv A outer s H vs Q E hr h => ?_)
  · obtain ⟨t, b, rfl, _⟩ := h
    rfl
  · obtain ⟨t, b, rfl, hb, ht, hl, q⟩ := h
    refine ⟨_, (pss_one (ps_ret (pe_ifExp (pt_cmpR op_gt (pv 0) pe_int (nomark _)) (pe_cal c_downward hr (pa_cons (pv 0) (pa_cons (pv 1) pa_nil))) (pe_cal c_upward hr (pa_cons (pv 0) (pa_cons (pv 1) pa_nil)))))), ?_⟩
    refine ⟨_, rfl, _, _, rfl, rfl, _, rfl, ite2 (fun c => ?_) (fun c => ?_)⟩
    · refine ⟨_, rfl, _, rfl, t, b, rfl, hb, ht, hl, ?_⟩
      have hc : t > 0 := toB c
      unfold fIn at q
      rw [if_pos hc] at q
      exact q
    · refine ⟨_, rfl, _, rfl, t, b, rfl, hb, ht, hl, ?_⟩
      have hc : ¬ t > 0 := toNB c
      unfold fIn at q
      rw [if_neg hc] at q
      exact q
theorem sc_outward : FnScope ["top", "bottom"] ["top", "bottom"] (defScope s_outward) := ⟨rfl, rfl, rfl, by decide +kernel, rfl, by decide +kernel, by decide +kernel⟩
theorem ok_outward {f : Addr} {fd : FuncData} (F : Fun K "outward" "outward" s_outward f fd) (c_downward : Cal P w K mg base 1 "downward" ["top", "bottom"] (spRnd fDown)) (c_upward : Cal P w K mg base 1 "upward" ["top", "bottom"] (spRnd fUp)) : FnOk P w K mg base CX0 2 f fd ["top", "bottom"] (spRnd fOut) := by
  refine F.ok sc_outward (fun vs H Q E h => ?_) (fun cdv A outer s H vs Q E hr h => ?_)
  · obtain ⟨t, b, rfl, _⟩ := h
    rfl
  · obtain ⟨t, b, rfl, hb, ht, hl, q⟩ := h
    refine ⟨_, (pss_one (ps_ret (pe_ifExp (pt_cmpR op_gt (pv 0) pe_int (nomark _)) (pe_cal c_upward hr (pa_cons (pv 0) (pa_cons (pv 1) pa_nil))) (pe_cal c_downward hr (pa_cons (pv 0) (pa_cons (pv 1) pa_nil)))))), ?_⟩
    refine ⟨_, rfl, _, _, rfl, rfl, _, rfl, ite2 (fun c => ?_) (fun c => ?_)⟩
    · refine ⟨_, rfl, _, rfl, t, b, rfl, hb, ht, hl, ?_⟩
      have hc : t > 0 := toB c
      unfold fOut at q
      rw [if_pos hc] at q
      exact q
    · refine ⟨_, rfl, _, rfl, t, b, rfl, hb, ht, hl, ?_⟩
      have hc : ¬ t > 0 := toNB c
      unfold fOut at q
      rw [if_neg hc] at q
      exact q
theorem sc_nearest_greater : FnScope ["top", "bottom"] ["top", "bottom"] (defScope s_nearest_greater) := ⟨rfl, rfl, rfl, by decide +kernel, rfl, by decide +kernel, by decide +kernel⟩
theorem ok_nearest_greater {f : Addr} {fd : FuncData} {k : Nat} (F : Fun K "nearest_greater" "nearest_greater" s_nearest_greater f fd) : FnOk P w K mg base CX0 (k + 1) f fd ["top", "bottom"] (spRnd fHalf) := by
  refine F.ok sc_nearest_greater (fun vs H Q E h => ?_) (fun cdv A outer s H vs Q E hr h => ?_)
  · obtain ⟨t, b, rfl, _⟩ := h
    rfl
  · obtain ⟨t, b, rfl, hb, ht, hl, q⟩ := h
    refine ⟨_, (pss_one (ps_ret (pe_op op_fdivW (pe_op op_add (pe_op op_mul pe_int (pv 0)) (pv 1)) (pe_op op_mul pe_int (pv 1))))), ?_⟩
    exact ⟨_, rfl, _, _, rfl, rfl, .inl ⟨by decide, by decide⟩, _, rfl, _, _, rfl, rfl, _, rfl, _, _, rfl, rfl, .inl ⟨by decide, by decide⟩, _, _, rfl, rfl, wide_div (by omega) (two_b hl) (by decide) (by decide), q⟩
theorem sc_nearest_even : FnScope ["top", "bottom", "near", "halfway"] ["top", "bottom"] (defScope s_nearest_even) := ⟨rfl, rfl, rfl, by decide +kernel, rfl, by decide +kernel, by decide +kernel⟩
theorem ok_nearest_even {f : Addr} {fd : FuncData} (F : Fun K "nearest_even" "nearest_even" s_nearest_even f fd) (c_nearest_greater : Cal P w K mg base 1 "nearest_greater" ["top", "bottom"] (spRnd fHalf)) : FnOk P w K mg base CX0 2 f fd ["top", "bottom"] (spRnd fEven) := by
  refine F.ok sc_nearest_even (fun vs H Q E h => ?_) (fun cdv A outer s H vs Q E hr h => ?_)
  · obtain ⟨t, b, rfl, _⟩ := h
    rfl
  · obtain ⟨t, b, rfl, hb, ht, hl, q⟩ := h
    have hn := half_le ht hl
    refine ⟨_, (pss_cons (ps_set (i := 2) sc_nearest_even.nd rfl (.inl rfl) (pe_cal c_nearest_greater hr (pa_cons (pv 0) (pa_cons (pv 1) pa_nil))))
      (pss_cons (ps_set (i := 3) sc_nearest_even.nd rfl (.inl rfl) (pe_cmpR op_eq (pe_op op_mul pe_int (pe_op op_sub (pe_op op_mulW (pv 2) (pv 1)) (pv 0))) (pv 1) (nomark _)))
      (pss_one (ps_ret (pe_ifExp (PW.pt (pw_and (pt_val (pv 3)) (pw_and1 (pt_truth (pe_op op_and (pv 2) pe_int) (by intro _; rfl))))) (pe_op op_sub (pv 2) pe_int) (pv 2)))))), ?_⟩
    refine ⟨_, rfl, _, rfl, t, b, rfl, hb, ht, hl, ?_⟩
    unfold fEven at q
    generalize fHalf t b = n at *
    refine ⟨_, rfl, _, rfl, _, _, rfl, rfl, wide_mul hn hl (by decide) (by decide) (by decide), _, rfl, _, _, rfl, rfl, _, _, rfl, rfl, .inl ⟨by decide, by decide⟩, _, rfl, rfl, ?_⟩
    have eB : (decide (V.int (2 * (n * b - t)) = V.int b)) = decide (2 * (n * b - t) = b) := by
      by_cases h : 2 * (n * b - t) = b
      · rw [h, decide_eq_true rfl, decide_eq_true rfl]
      · rw [decide_eq_false h, decide_eq_false (fun z => h (V.int.inj z))]
    rw [eB]
    by_cases hc : 2 * (n * b - t) = b
    · rw [decide_eq_true hc]
      refine ⟨_, rfl, _, rfl, iteT ⟨_, rfl, _, _, rfl, rfl, _, rfl, ?_⟩⟩
      rw [PyProof.Rows.bitAnd_m1]
      by_cases h2 : n % 2 ≠ 0
      · have e : (n % 2 != 0) = true := by
          rw [bne_iff_ne]
          exact h2
        rw [e]
        rw [if_pos ⟨hc, h2⟩] at q
        exact iteT ⟨_, rfl, _, _, rfl, rfl, q⟩
      · have e : (n % 2 != 0) = false := by
          have : n % 2 = 0 := by omega
          rw [this]
          rfl
        rw [e]
        rw [if_neg (fun z => h2 z.2)] at q
        exact iteF ⟨_, rfl, q⟩
    · rw [decide_eq_false hc]
      rw [if_neg (fun z => hc z.1)] at q
      exact ⟨_, rfl, _, rfl, iteF (iteF ⟨_, rfl, q⟩)⟩
theorem sc_nearest_far : FnScope ["top", "bottom"] ["top", "bottom"] (defScope s_nearest_far) := ⟨rfl, rfl, rfl, by decide +kernel, rfl, by decide +kernel, by decide +kernel⟩
theorem ok_nearest_far {f : Addr} {fd : FuncData} (F : Fun K "nearest_far" "nearest_far" s_nearest_far f fd) (c_nearest_greater : Cal P w K mg base 1 "nearest_greater" ["top", "bottom"] (spRnd fHalf)) : FnOk P w K mg base CX0 2 f fd ["top", "bottom"] (spRnd fFar) := by
  refine F.ok sc_nearest_far (fun vs H Q E h => ?_) (fun cdv A outer s H vs Q E hr h => ?_)
  · obtain ⟨t, b, rfl, _⟩ := h
    rfl
  · obtain ⟨t, b, rfl, hb, ht, hl, q⟩ := h
    refine ⟨_, (pss_one (ps_ret (pe_ifExp (pt_cmpR op_gt (pv 0) pe_int (nomark _)) (pe_cal c_nearest_greater hr (pa_cons (pv 0) (pa_cons (pv 1) pa_nil))) (pe_un un_neg (pe_cal c_nearest_greater hr (pa_cons (pe_un un_neg (pv 0)) (pa_cons (pv 1) pa_nil))))))), ?_⟩
    refine ⟨_, rfl, _, _, rfl, rfl, _, rfl, ite2 (fun c => ?_) (fun c => ?_)⟩
    · refine ⟨_, rfl, _, rfl, t, b, rfl, hb, ht, hl, ?_⟩
      have hc : t > 0 := toB c
      unfold fFar at q
      rw [if_pos hc] at q
      exact q
    · refine ⟨_, rfl, _, rfl, _, rfl, -t, b, rfl, hb, by rw [Int.natAbs_neg]; exact ht, hl, _, rfl, ?_⟩
      have hc : ¬ t > 0 := toNB c
      unfold fFar at q
      rw [if_neg hc] at q
      exact q
theorem sc_is_manner : FnScope ["thing"] ["thing"] (defScope s_is_manner) := ⟨rfl, rfl, rfl, by decide +kernel, rfl, by decide +kernel, by decide +kernel⟩
theorem ok_is_manner {f : Addr} {fd : FuncData} {k : Nat} {dM : Addr} {es : Array DictEntry} {n : Nat} (M : Mans P w K mg base dM es n) (F : Fun K "is_manner" "is_manner" s_is_manner f fd) (z : Zs mg) : FnOk P w K mg base CX0 (k + 1) f fd ["thing"] (spManner K dM) := by
  refine F.ok sc_is_manner (fun vs H Q E h => ?_) (fun cdv A outer s H vs Q E hr h => ?_)
  · obtain ⟨x, b, rfl, _⟩ := h
    rfl
  · obtain ⟨x, b, rfl, hm, q⟩ := h
    refine ⟨_, (pss_one (ps_ret (pe_and (pe_callB call_isi (by rfl) z.isinstance (by decide +kernel) (pa_cons (pv 0) (pa_cons (pe_bltn (v := .ty "str") (by rfl) z.str (by decide +kernel) rfl) pa_nil))) (pe_one (pe_cmpR (op_in_kd M.D) (pv 0) (pe_glob (v := .ref dM) (by rfl) M.gm rfl) (by rfl)))))), ?_⟩
    rcases hm with ⟨m, rfl, rfl⟩ | ⟨y, rfl, ny, rfl⟩ | ⟨rfl, t, ty, kt⟩
    · obtain ⟨fm, fdm, h1, _⟩ := M.at_ m
      exact ⟨_, rfl, _, .ty "str", _, _, true, rfl, .ty _, .base (.str _), kit_ty (by decide +kernel), _, rfl, iteT ⟨_, rfl, _, _, rfl, rfl, h1, q⟩⟩
    · exact ⟨_, rfl, _, .ty "str", _, _, true, rfl, .ty _, .base (.str _), kit_ty (by decide +kernel), _, rfl, iteT ⟨_, rfl, _, _, rfl, rfl, ny, q⟩⟩
    · exact ⟨_, rfl, _, .ty "str", _, _, false, rfl, .ty _, ty, kit_ty kt, _, rfl, iteF q⟩
end
end E1

namespace E1
open PySem PySem.Spec PyProof.Rows L2
abbrev s_Form___init__ : Stmt := inClass (topS 28) 0
abbrev s_Form_least : Stmt := inClass (topS 28) 1
abbrev s_Form_greatest : Stmt := inClass (topS 28) 2
abbrev s_Form_has : Stmt := inClass (topS 28) 3
abbrev s_Form_step : Stmt := inClass (topS 28) 4
abbrev s_Form_slack : Stmt := inClass (topS 28) 5
abbrev s_Form_value : Stmt := inClass (topS 28) 6
abbrev s_Form_word_for : Stmt := inClass (topS 28) 7
abbrev s_Form_kept : Stmt := inClass (topS 28) 9
abbrev s_Form_bits : Stmt := inClass (topS 28) 11
abbrev s_Form_is_bits : Stmt := inClass (topS 28) 12
abbrev s_Form_word_of : Stmt := inClass (topS 28) 13
abbrev s_Form_added : Stmt := inClass (topS 28) 14
abbrev s_Form___eq__ : Stmt := inClass (topS 28) 15
abbrev s_Form___str__ : Stmt := inClass (topS 28) 16
abbrev s_Form___repr__ : Stmt := inClass (topS 28) 17

def wV : Option Int → V
  | none => .non
  | some w => .int w
def endS : Bool → Str
  | true => "stop"
  | false => "wrap"
def WOk (w : Option Int) : Prop := ∀ x, w = some x → 2 ≤ x ∧ x ≤ 64
structure FCst (K : PySem.W.Frag) (mg : Str → Option Value) (aE : Addr) : Prop where
  lw : ∃ t, mg "LEAST_WIDTH" = some (.int 2 t)
  gw : ∃ t, mg "GREATEST_WIDTH" = some (.int 64 t)
  gp : ∃ t, mg "GREATEST_POINT" = some (.int 64 t)
  e : mg "ENDS" = some (.ref aE)
  eT : ∀ H, SqT K H aE [.str "wrap", .str "stop"]
/-- whether a thing is a width, a point, ends -/
def WidthIs (K : PySem.W.Frag) (H : Hp) (x : V) (b : Bool) : Prop := (∃ w, x = wV w ∧ WOk w ∧ b = true) ∨ (∃ n, x = .int n ∧ ¬ (2 ≤ n ∧ n ≤ 64) ∧ b = false) ∨ (b = false ∧ x ≠ .non ∧ WholeIs K H x false)
def PointIs (K : PySem.W.Frag) (H : Hp) (x : V) (b : Bool) : Prop := (∃ n, x = .int n ∧ b = decide (-64 ≤ n ∧ n ≤ 64)) ∨ (b = false ∧ WholeIs K H x false)
def EndsIs (K : PySem.W.Frag) (H : Hp) (x : V) (b : Bool) : Prop := (∃ z : Str, x = .str z ∧ b = inV (.str z) [.str "wrap", .str "stop"]) ∨ (b = false ∧ ∃ t : String, TyX K H x (.type t) ∧ kitB t "str" = some false)
def sp1 (R : Hp → V → Bool → Prop) : Sp := fun vs H Q _ => ∃ (x : V) (b : Bool), vs = [x] ∧ R H x b ∧ Q (.bl b) H
/-- which part is the first one amiss -/
def firstBad (b1 b2 b3 : Bool) : Str := if b1 = false then "width" else if b2 = false then "point" else if b3 = false then "manner" else "ends"
def spInitX (K : PySem.W.Frag) (dM C CB : Addr) : Sp := fun vs H _ E => ∃ (p dx : Addr) (x1 x2 x3 x4 : V) (b1 b2 b3 b4 : Bool), vs = [.ref p, x1, x2, x3, x4] ∧ H p = some (.ins C dx []) ∧ WidthIs K H x1 b1 ∧ PointIs K H x2 b2 ∧ MannerIs K H dM x3 b3 ∧ EndsIs K H x4 b4 ∧ (b1 && b2 && b3 && b4) = false ∧
  ∀ d, H d = none → E (.ref CB) (some d) (upd H d (.xd [("part", .str (firstBad b1 b2 b3))]))
theorem iteC {c d : Bool} {A B : Prop} (e : c = d) (h : if d = true then A else B) : if c = true then A else B := e ▸ h
section
variable {P : Program} {w : World} {K : PySem.W.Frag} {mg : Str → Option Value} {base : Heap}
theorem sc_is_width : FnScope ["thing"] ["thing"] (defScope s_is_width) := ⟨rfl, rfl, rfl, by decide +kernel, rfl, by decide +kernel, by decide +kernel⟩
theorem ok_is_width {f : Addr} {fd : FuncData} {aE : Addr} (Z : FCst K mg aE) (F : Fun K "is_width" "is_width" s_is_width f fd) (c_is_whole : Cal P w K mg base 1 "is_whole" ["thing"] (spWhole K)) : FnOk P w K mg base CX0 2 f fd ["thing"] (sp1 (WidthIs K)) := by
  refine F.ok sc_is_width (fun vs H Q E h => ?_) (fun cdv A outer s H vs Q E hr h => ?_)
  · obtain ⟨x, b, rfl, _⟩ := h
    rfl
  · obtain ⟨x, b, rfl, hx, q⟩ := h
    obtain ⟨_, gLW⟩ := Z.lw
    obtain ⟨_, gGW⟩ := Z.gw
    refine ⟨_, (pss_one (ps_ret (pe_or (pe_cmpR op_isN (pv 0) pe_non (nomark _)) (pe_one (pe_and (pe_cal c_is_whole hr (pa_cons (pv 0) pa_nil)) (pe_one (pe_chain op_le op_le (pe_glob (v := .int 2) (by rfl) gLW ⟨_, rfl⟩) (pv 0) (pe_glob (v := .int 64) (by rfl) gGW ⟨_, rfl⟩)))))))), ?_⟩
    rcases hx with ⟨w, rfl, hw, rfl⟩ | ⟨n, rfl, hn, rfl⟩ | ⟨rfl, hne, hx⟩
    · cases w with
      | none => exact ⟨_, rfl, rfl, _, rfl, iteT q⟩
      | some x =>
        obtain ⟨h1, h2⟩ := hw x rfl
        refine ⟨_, rfl, rfl, _, rfl, iteF ⟨_, rfl, _, _, rfl, .int x, _, rfl, iteT ⟨_, rfl, _, _, rfl, rfl, _, rfl, ?_⟩⟩⟩
        rw [decide_eq_true h1]
        refine iteT ⟨_, _, rfl, rfl, ?_⟩
        show Q (.bl (decide (x ≤ 64))) H
        rw [decide_eq_true h2]
        exact q
    · refine ⟨_, rfl, rfl, _, rfl, iteF ⟨_, rfl, _, _, rfl, .int n, _, rfl, iteT ⟨_, rfl, _, _, rfl, rfl, _, rfl, ?_⟩⟩⟩
      by_cases h1 : 2 ≤ n
      · rw [decide_eq_true h1]
        refine iteT ⟨_, _, rfl, rfl, ?_⟩
        show Q (.bl (decide (n ≤ 64))) H
        rw [decide_eq_false (fun h2 => hn ⟨h1, h2⟩)]
        exact q
      · rw [decide_eq_false h1]
        exact iteF q
    · refine ⟨_, rfl, rfl, _, rfl, ?_⟩
      refine iteC (c := decide (x = V.non)) (d := false) (decide_eq_false hne) (iteF ?_)
      exact ⟨_, rfl, _, _, rfl, hx, _, rfl, iteF q⟩
theorem sc_is_point : FnScope ["thing"] ["thing"] (defScope s_is_point) := ⟨rfl, rfl, rfl, by decide +kernel, rfl, by decide +kernel, by decide +kernel⟩
theorem ok_is_point {f : Addr} {fd : FuncData} {aE : Addr} (Z : FCst K mg aE) (F : Fun K "is_point" "is_point" s_is_point f fd) (z : Zs mg) (c_is_whole : Cal P w K mg base 1 "is_whole" ["thing"] (spWhole K)) : FnOk P w K mg base CX0 2 f fd ["thing"] (sp1 (PointIs K)) := by
  refine F.ok sc_is_point (fun vs H Q E h => ?_) (fun cdv A outer s H vs Q E hr h => ?_)
  · obtain ⟨x, b, rfl, _⟩ := h
    rfl
  · obtain ⟨x, b, rfl, hx, q⟩ := h
    obtain ⟨_, gGP⟩ := Z.gp
    refine ⟨_, (pss_one (ps_ret (pe_and (pe_cal c_is_whole hr (pa_cons (pv 0) pa_nil)) (pe_one (pe_cmpR op_le (pe_callB call_abs (by rfl) z.abs (by decide +kernel) (pa_cons (pv 0) pa_nil)) (pe_glob (v := .int 64) (by rfl) gGP ⟨_, rfl⟩) (nomark _)))))), ?_⟩
    rcases hx with ⟨n, rfl, rfl⟩ | ⟨rfl, hx⟩
    · refine ⟨_, rfl, _, _, rfl, .int n, _, rfl, iteT ⟨_, rfl, _, rfl, _, _, rfl, rfl, ?_⟩⟩
      show Q (.bl (decide ((if n < 0 then -n else n) ≤ 64))) H
      have e : (decide ((if n < 0 then -n else n) ≤ 64)) = decide (-64 ≤ n ∧ n ≤ 64) := by
        refine decide_eq_decide.mpr ?_
        split <;> omega
      rw [e]
      exact q
    · exact ⟨_, rfl, _, _, rfl, hx, _, rfl, iteF q⟩
theorem sc_is_ends : FnScope ["thing"] ["thing"] (defScope s_is_ends) := ⟨rfl, rfl, rfl, by decide +kernel, rfl, by decide +kernel, by decide +kernel⟩
theorem ok_is_ends {f : Addr} {fd : FuncData} {k : Nat} {aE : Addr} (Z : FCst K mg aE) (F : Fun K "is_ends" "is_ends" s_is_ends f fd) (z : Zs mg) : FnOk P w K mg base CX0 (k + 1) f fd ["thing"] (sp1 (EndsIs K)) := by
  refine F.ok sc_is_ends (fun vs H Q E h => ?_) (fun cdv A outer s H vs Q E hr h => ?_)
  · obtain ⟨x, b, rfl, _⟩ := h
    rfl
  · obtain ⟨x, b, rfl, hx, q⟩ := h
    refine ⟨_, (pss_one (ps_ret (pe_and (pe_callB call_isi (by rfl) z.isinstance (by decide +kernel) (pa_cons (pv 0) (pa_cons (pe_bltn (v := .ty "str") (by rfl) z.str (by decide +kernel) rfl) pa_nil))) (pe_one (pe_cmpR op_in_seq (pv 0) (pe_glob (v := .ref aE) (by rfl) Z.e rfl) (by rfl)))))), ?_⟩
    rcases hx with ⟨y, rfl, rfl⟩ | ⟨rfl, t, ty, kt⟩
    · exact ⟨_, rfl, _, .ty "str", _, _, true, rfl, .ty _, .base (.str _), kit_ty (by decide +kernel), _, rfl, iteT ⟨_, rfl, aE, _, rfl, .inr (Z.eT _), rfl, rfl, q⟩⟩
    · exact ⟨_, rfl, _, .ty "str", _, _, false, rfl, .ty _, ty, kit_ty kt, _, rfl, iteF q⟩
theorem sc_Form___init__ : FnScope ["self", "width", "point", "manner", "ends"] ["self", "width", "point", "manner", "ends"] (defScope s_Form___init__) := ⟨rfl, rfl, rfl, by decide +kernel, rfl, by decide +kernel, by decide +kernel⟩
theorem ok_Form___init__ {f : Addr} {fd : FuncData} {dM C : Addr} {dvs : List V} {CB fI : Addr} (EC : PySem.ErrX.ErrC K mg "BadForm" CB) (IO : PySem.ErrX.IniOk P w K mg CB fI "part") (F : FunD K "__init__" "Form.__init__" (defArgs s_Form___init__) (defBody s_Form___init__) (defScope s_Form___init__) dvs [] f fd) (c_is_width : Cal P w K mg base 2 "is_width" ["thing"] (sp1 (WidthIs K))) (c_is_point : Cal P w K mg base 2 "is_point" ["thing"] (sp1 (PointIs K))) (c_is_manner : Cal P w K mg base 1 "is_manner" ["thing"] (spManner K dM)) (c_is_ends : Cal P w K mg base 1 "is_ends" ["thing"] (sp1 (EndsIs K))) : FnOk P w K mg base (L2.CX P w) 3 f fd ["self", "width", "point", "manner", "ends"] (spInitX K dM C CB) := by
  refine F.ok (CX := L2.CX P w) sc_Form___init__ (fun vs H Q E h => ?_) (fun cdv A outer s H vs Q E hr h => ?_)
  · obtain ⟨p, dx, x1, x2, x3, x4, b1, b2, b3, b4, rfl, _⟩ := h
    rfl
  · obtain ⟨p, dx, x1, x2, x3, x4, b1, b2, b3, b4, rfl, hp, h1, h2, h3, h4, hb, q⟩ := h
    refine ⟨_, (pss_cons (ps_if (pt_not (pt_val (pe_cal c_is_width hr (pa_cons (pv 1) pa_nil)))) (pss_one (ps_raiseErr rfl EC IO hr (takes_of rfl rfl rfl rfl) (by exact (pa_cons pe_str pa_nil)))) pss_nil)
      (pss_cons (ps_if (pt_not (pt_val (pe_cal c_is_point hr (pa_cons (pv 2) pa_nil)))) (pss_one (ps_raiseErr rfl EC IO hr (takes_of rfl rfl rfl rfl) (by exact (pa_cons pe_str pa_nil)))) pss_nil)
      (pss_cons (ps_if (pt_not (pt_val (pe_cal c_is_manner hr (pa_cons (pv 3) pa_nil)))) (pss_one (ps_raiseErr rfl EC IO hr (takes_of rfl rfl rfl rfl) (by exact (pa_cons pe_str pa_nil)))) pss_nil)
      (pss_cons (ps_if (pt_not (pt_val (pe_cal c_is_ends hr (pa_cons (pv 4) pa_nil)))) (pss_one (ps_raiseErr rfl EC IO hr (takes_of rfl rfl rfl rfl) (by exact (pa_cons pe_str pa_nil)))) pss_nil)
      (pss_cons (ps_fld (pv 0) (pv 1) rfl)
      (pss_cons (ps_fld (pv 0) (pv 2) rfl)
      (pss_cons (ps_fld (pv 0) (pv 3) rfl)
      (pss_one (ps_fld (pv 0) (pv 4) rfl))))))))), ?_⟩
    cases b1 with
    | false => exact ⟨_, rfl, x1, _, rfl, h1, _, rfl, iteT ⟨_, rfl, .inl ⟨_, rfl, by decide⟩, q⟩⟩
    | true =>
      refine ⟨_, rfl, x1, _, rfl, h1, _, rfl, iteF ?_⟩
      cases b2 with
      | false => exact ⟨_, rfl, x2, _, rfl, h2, _, rfl, iteT ⟨_, rfl, .inl ⟨_, rfl, by decide⟩, q⟩⟩
      | true =>
        refine ⟨_, rfl, x2, _, rfl, h2, _, rfl, iteF ?_⟩
        cases b3 with
        | false => exact ⟨_, rfl, x3, _, rfl, h3, _, rfl, iteT ⟨_, rfl, .inl ⟨_, rfl, by decide⟩, q⟩⟩
        | true =>
          refine ⟨_, rfl, x3, _, rfl, h3, _, rfl, iteF ?_⟩
          cases b4 with
          | false => exact ⟨_, rfl, x4, _, rfl, h4, _, rfl, iteT ⟨_, rfl, .inl ⟨_, rfl, by decide⟩, q⟩⟩
          | true => cases hb
end
end E1

namespace E1
open PySem PySem.Spec PyProof.Rows L2
structure Drw (a : Addr) (H H' : Hp) : Prop where
  but : SameBut a H H'
  new : ∀ b, H b = none → H' b = none
theorem Drw.refl (a : Addr) (H : Hp) : Drw a H H := ⟨SameBut.refl a H, fun _ h => h⟩
theorem Drw.trans {a : Addr} {H H1 H2 : Hp} (x : Drw a H H1) (y : Drw a H1 H2) : Drw a H H2 := ⟨x.but.trans y.but, fun b h => y.new b (x.new b h)⟩
/-- what lies at a well's place is no new thing -/
theorem WellAt.ne {H : Hp} {a p : Addr} {c : Int} (h : WellAt H a c) (hp : H p = none) : p ≠ a := fun e => by
  obtain ⟨_, _, _, z, _⟩ := h
  rw [e, z] at hp
  cases hp
/-- new things alone, beside the well -/
theorem SameBut.free {a : Addr} {H H' : Hp} {p : Addr} {c : Int} (s : SameBut a H H') (w : WellAt H' a c) (hp : H' p = none) : H p = none := by
  cases e : H p with
  | none => rfl
  | some o =>
    rw [s _ _ (w.ne hp) e] at hp
    cases hp

/-! ### kinds of things -/
inductive Kd (H : Hp) : V → String → Prop where
  | int (n : Int) : Kd H (.int n) "int"
  | bl (b : Bool) : Kd H (.bl b) "bool"
  | str (y : Str) : Kd H (.str y) "str"
  | non : Kd H .non "NoneType"
  | tup {p : Addr} {xs : List V} (e : H p = some (.tup xs)) : Kd H (.ref p) "tuple"
  | lst {p : Addr} {xs : List V} (e : H p = some (.lst xs)) : Kd H (.ref p) "list"
  | dK {p : Addr} {kv : List (Key × V)} (e : H p = some (.dK kv)) : Kd H (.ref p) "dict"
theorem Kd.ty {K : PySem.W.Frag} {H : Hp} {x : V} {t : String} (h : Kd H x t) : TyX K H x (.type t) := by
  cases h with
  | int n => exact .base (.int n)
  | bl b => exact .base (.bl b)
  | str y => exact .base (.str y)
  | non => exact .base .non
  | tup e => exact .base (.tup e)
  | lst e => exact .base (.lst e)
  | dK e => exact .base (.dK e)
theorem Kd.there {H : Hp} {x : V} {t : String} {p : Addr} (h : Kd H x t) (e : x = .ref p) : ∃ o, H p = some o := by
  cases h with
  | int n => cases e
  | bl b => cases e
  | str y => cases e
  | non => cases e
  | tup q => cases e; exact ⟨_, q⟩
  | lst q => cases e; exact ⟨_, q⟩
  | dK q => cases e; exact ⟨_, q⟩
/-- what a thing refers to stays -/
def StaysV (H H' : Hp) (x : V) : Prop := ∀ p o, x = .ref p → H p = some o → (∀ ps, o ≠ .tbl ps) → H' p = some o
theorem Kd.keep {H H' : Hp} {x : V} {t : String} (h : Kd H x t) (k : StaysV H H' x) : Kd H' x t := by
  cases h with
  | int n => exact .int n
  | bl b => exact .bl b
  | str y => exact .str y
  | non => exact .non
  | tup e => exact .tup (k _ _ rfl e (fun _ z => by cases z))
  | lst e => exact .lst (k _ _ rfl e (fun _ z => by cases z))
  | dK e => exact .dK (k _ _ rfl e (fun _ z => by cases z))
theorem StaysV.of {H H' : Hp} {x : V} (s : Same H H') : StaysV H H' x := fun p o _ e _ => s p o e
theorem StaysV.but {H H' : Hp} {a : Addr} {x : V} (s : SameBut a H H') (n : x ≠ .ref a) : StaysV H H' x := fun p o e1 e2 _ => s p o (fun z => n (by rw [e1, z])) e2
theorem StaysV.ext {H H' : Hp} {x : V} (s : LamX.ExtN H H') : StaysV H H' x := fun p o _ e n => s p o e n
theorem StaysV.trans {H H1 H2 : Hp} {x : V} (a : StaysV H H1 x) (b : StaysV H1 H2 x) : StaysV H H2 x := fun p o e1 e2 n => b p o e1 (a p o e1 e2 n) n
theorem StaysV.nr {H H1 : Hp} {x : V} (h : ∀ p, x ≠ .ref p) : StaysV H H1 x := fun p o e1 _ _ => absurd e1 (h p)
/-! ### calls within a lambda that may raise -/
section
variable {X : Cx} {k j : Nat} {C : Addr} {m x : Str} {ps ks : List Str} {dvs : List V} {sp : Sp} {o e : Expr} {es : List Expr} {ta : TE} {t tk : TA} {apos p pos : Pos} {gV : List V → List V → List V} {kws : List Keyword} {E : XK}
def CalCX (P : Program) (w : World) (K : PySem.W.Frag) (mg : Str → Option Value) (base : Heap) (k : Nat) (x : Str) (C : Addr) (ps : List Str) (dvs : List V) (sp : Sp) : Prop :=
  ∃ (f : Addr) (fd : FuncData) (ds : List Value), Mk K C f ∧ mg x = some (.ref C) ∧ Vals dvs ds ∧ Binds K fd ps ds ∧ FnOk P w K mg base (L2.CX P w) k f fd ps sp
def CalCXK (P : Program) (w : World) (K : PySem.W.Frag) (mg : Str → Option Value) (base : Heap) (k : Nat) (x : Str) (C : Addr) (ps : List Str) (n : Nat) (ks : List Str) (gV : List V → List V → List V) (sp : Sp) : Prop :=
  ∃ (f : Addr) (fd : FuncData) (g : List Value → List Value → List Value), Mk K C f ∧ mg x = some (.ref C) ∧ KBn K fd ps (n + 1) ks g gV ∧ FnOk P w K mg base (L2.CX P w) k f fd ps sp
theorem pe_calcX (h : CalCX X.prog X.w X.K X.mg X.base k x C ps dvs sp) (hr : Room j X.A) (tk : Takes X (fun cls d _ H => E cls d H)) (ha : PA X (e :: es) t) (hle : k + 1 ≤ j := by decide) (hg : Gl X x := by rfl)
    (hdb : (x == ("__debug__" : Str)) = false := by decide) (he : starEach (e :: es) X.env = (false, eval e X.env) :: starEach es X.env := by rfl) (hpl : (backTo pos (starEach es X.env)).any (·.1) = false := by rfl) :
    PE X (.Call (.Name x p) (e :: es) [] pos) (tMake C sp dvs E t) := by
  obtain ⟨f, fd, ds, h1, h2, h3, h4, h5⟩ := h
  exact pe_make h1 h5 (hr.mono hle) hg h2 h4 h3 (passes_call tk (fun _ _ _ _ h => h)) ha hdb he hpl
theorem pe_calcX0 (h : CalCXK X.prog X.w X.K X.mg X.base k x C ps 0 ks gV sp) (hr : Room j X.A) (tk' : Takes X (fun cls d _ H => E cls d H)) (hkw : PK X kws tk) (hle : k + 1 ≤ j := by decide) (hg : Gl X x := by rfl)
    (hall : (backToKw pos (keywordEach kws X.env)).all (·.1.isSome) = true := by rfl) (hks : (backToKw pos (keywordEach kws X.env)).filterMap (·.1) = ks := by rfl)
    (hdb : (x == ("__debug__" : Str)) = false := by decide)
    (hpl : ((backTo pos (starEach [] X.env)).any (·.1) || (backToKw pos (keywordEach kws X.env)).any (·.1.isNone)) = false := by rfl) :
    PE X (.Call (.Name x p) [] kws pos) (tMakeN C 0 ks.length sp gV E tNil tk) := by
  obtain ⟨f, fd, g, h1, h2, h3, h4⟩ := h
  refine ⟨fun pins s σ H Q I h => ?_⟩
  refine wpAny_Call_Name_kw (ld_glob I hg h2 ?_ hdb)
  refine PySem.W.callWith_KW0 (h₀ := X.base) I.ok.mod.kin h1.kp hall (thn (hkw.run pos pins s σ H _ I h) fun ws s2 ⟨zs, H2, I2, rz, l1, l2, q2⟩ => ⟨I2.kIn, ?_⟩) hpl
  rw [hks]
  exact run_makeN (vs := []) (us := []) h1 h4 (hr.mono hle) h3 (passes_call tk' (fun _ _ _ _ h => h)) I2 .nil rz l1 l2 q2
/-- the error passes on out of the lambda -/
theorem takesLam {X : Cx} {A : Around} {outer : List Env} {s : Shared} {H : Hp} {E : XK} {scope : Scope} {f c' : Addr} : Takes (LamX.lamCx X A outer s H E scope f c') (fun cls d _ H => E cls d H) := takes_of rfl rfl rfl rfl
end

structure Bads (K : PySem.W.Frag) (dM : Addr) : Prop where
  b0 : PySem.W.nsIn K dM "" = some none
  b1 : PySem.W.nsIn K dM "Half" = some none
  b2 : PySem.W.nsIn K dM "half " = some none
  b3 : PySem.W.nsIn K dM "near" = some none
  b4 : PySem.W.nsIn K dM "wrap" = some none
  b5 : PySem.W.nsIn K dM "stop" = some none
  b6 : PySem.W.nsIn K dM "halfeven" = some none
def BadW (H : Hp) (x : V) : Prop := (∃ n, x = .int n ∧ ¬ (2 ≤ n ∧ n ≤ 64)) ∨ (∃ b, x = .bl b) ∨ ∃ t, Kd H x t ∧ x ≠ .non ∧ kitB t "int" = some false
def BadP (H : Hp) (x : V) : Prop := (∃ n, x = .int n ∧ ¬ (-64 ≤ n ∧ n ≤ 64)) ∨ (∃ b, x = .bl b) ∨ ∃ t, Kd H x t ∧ kitB t "int" = some false
def BadM (K : PySem.W.Frag) (dM : Addr) (H : Hp) (x : V) : Prop := (∃ y : Str, x = .str y ∧ PySem.W.nsIn K dM y = some none) ∨ ∃ t, Kd H x t ∧ kitB t "str" = some false
def BadE (H : Hp) (x : V) : Prop := (∃ y : Str, x = .str y ∧ inV (.str y) [.str "wrap", .str "stop"] = false) ∨ ∃ t, Kd H x t ∧ kitB t "str" = some false
theorem BadW.is {K : PySem.W.Frag} {H : Hp} {x : V} (h : BadW H x) : WidthIs K H x false := by
  rcases h with ⟨n, rfl, hn⟩ | ⟨b, rfl⟩ | ⟨t, k, hx, ht⟩
  · exact .inr (.inl ⟨n, rfl, hn, rfl⟩)
  · exact .inr (.inr ⟨rfl, (fun z => by cases z), .inr (.inl ⟨b, rfl, rfl⟩)⟩)
  · exact .inr (.inr ⟨rfl, hx, .inr (.inr ⟨rfl, t, k.ty, ht⟩)⟩)
theorem BadP.is {K : PySem.W.Frag} {H : Hp} {x : V} (h : BadP H x) : PointIs K H x false := by
  rcases h with ⟨n, rfl, hn⟩ | ⟨b, rfl⟩ | ⟨t, k, ht⟩
  · exact .inl ⟨n, rfl, (decide_eq_false hn).symm⟩
  · exact .inr ⟨rfl, .inr (.inl ⟨b, rfl, rfl⟩)⟩
  · exact .inr ⟨rfl, .inr (.inr ⟨rfl, t, k.ty, ht⟩)⟩
theorem BadM.is {K : PySem.W.Frag} {dM : Addr} {H : Hp} {x : V} (h : BadM K dM H x) : MannerIs K H dM x false := by
  rcases h with ⟨y, rfl, hy⟩ | ⟨t, k, ht⟩
  · exact .inr (.inl ⟨y, rfl, hy, rfl⟩)
  · exact .inr (.inr ⟨rfl, t, k.ty, ht⟩)
theorem BadE.is {K : PySem.W.Frag} {H : Hp} {x : V} (h : BadE H x) : EndsIs K H x false := by
  rcases h with ⟨y, rfl, hy⟩ | ⟨t, k, ht⟩
  · exact .inl ⟨y, rfl, hy.symm⟩
  · exact .inr ⟨rfl, t, k.ty, ht⟩
theorem BadW.keep {H H' : Hp} {x : V} (h : BadW H x) (k : StaysV H H' x) : BadW H' x := by
  rcases h with h | h | ⟨t, q, h⟩
  · exact .inl h
  · exact .inr (.inl h)
  · exact .inr (.inr ⟨t, q.keep k, h⟩)
theorem BadP.keep {H H' : Hp} {x : V} (h : BadP H x) (k : StaysV H H' x) : BadP H' x := by
  rcases h with h | h | ⟨t, q, h⟩
  · exact .inl h
  · exact .inr (.inl h)
  · exact .inr (.inr ⟨t, q.keep k, h⟩)
theorem BadM.keep {K : PySem.W.Frag} {dM : Addr} {H H' : Hp} {x : V} (h : BadM K dM H x) (k : StaysV H H' x) : BadM K dM H' x := by
  rcases h with h | ⟨t, q, h⟩
  · exact .inl h
  · exact .inr ⟨t, q.keep k, h⟩
theorem BadE.keep {H H' : Hp} {x : V} (h : BadE H x) (k : StaysV H H' x) : BadE H' x := by
  rcases h with h | ⟨t, q, h⟩
  · exact .inl h
  · exact .inr ⟨t, q.keep k, h⟩
def spBad (R : Hp → V → Prop) : Sp := fun vs H Q _ => ∃ (a : Addr) (c : Int), vs = [.ref a] ∧ WellAt H a c ∧ c ≤ 100000 ∧ ∀ (x : V) (H' : Hp), SameBut a H H' → WellAt H' a (c + 5) → R H' x → (∀ p, x = .ref p → H p = none) → Q x H'
theorem pickW {K : PySem.W.Frag} {H : Hp} {dM : Addr} {l1 l2 : Addr} {x1 x2 : List V} {kv : List (Key × V)} {r d : Int} (d0 : 0 ≤ d) (e1 : H l1 = some (.tup x1)) (e2 : H l2 = some (.lst x2)) (h0 : 0 ≤ r) (h1 : r < 13) : ∃ v, atI [V.int 1, V.int 65, V.int 0, V.int (-1), V.int (65 + d), V.int (0 - d), V.bl true, V.bl false, V.str "8", V.str "", V.ref l1, V.ref l2, V.int (2 ^ (40 : Int).toNat)] r = some v ∧ BadW H v ∧ ∀ p, v = .ref p → p = l1 ∨ p = l2 := by
  rcases (by omega : r = 0 ∨ r = 1 ∨ r = 2 ∨ r = 3 ∨ r = 4 ∨ r = 5 ∨ r = 6 ∨ r = 7 ∨ r = 8 ∨ r = 9 ∨ r = 10 ∨ r = 11 ∨ r = 12) with rfl | rfl | rfl | rfl | rfl | rfl | rfl | rfl | rfl | rfl | rfl | rfl | rfl
  · exact ⟨_, rfl, .inl ⟨_, rfl, by omega⟩, fun p e => by cases e⟩
  · exact ⟨_, rfl, .inl ⟨_, rfl, by omega⟩, fun p e => by cases e⟩
  · exact ⟨_, rfl, .inl ⟨_, rfl, by omega⟩, fun p e => by cases e⟩
  · exact ⟨_, rfl, .inl ⟨_, rfl, by omega⟩, fun p e => by cases e⟩
  · exact ⟨_, rfl, .inl ⟨_, rfl, by omega⟩, fun p e => by cases e⟩
  · exact ⟨_, rfl, .inl ⟨_, rfl, by omega⟩, fun p e => by cases e⟩
  · exact ⟨_, rfl, .inr (.inl ⟨_, rfl⟩), fun p e => by cases e⟩
  · exact ⟨_, rfl, .inr (.inl ⟨_, rfl⟩), fun p e => by cases e⟩
  · exact ⟨_, rfl, .inr (.inr ⟨_, .str _, (fun z => by cases z), by decide +kernel⟩), fun p e => by cases e⟩
  · exact ⟨_, rfl, .inr (.inr ⟨_, .str _, (fun z => by cases z), by decide +kernel⟩), fun p e => by cases e⟩
  · exact ⟨_, rfl, .inr (.inr ⟨_, .tup e1, (fun z => by cases z), by decide +kernel⟩), fun p e => by cases e; simp⟩
  · exact ⟨_, rfl, .inr (.inr ⟨_, .lst e2, (fun z => by cases z), by decide +kernel⟩), fun p e => by cases e; simp⟩
  · exact ⟨_, rfl, .inl ⟨_, rfl, by decide⟩, fun p e => by cases e⟩
theorem pickP {K : PySem.W.Frag} {H : Hp} {dM : Addr} {l1 l2 l3 : Addr} {x1 x2 : List V} {kv : List (Key × V)} {r d : Int} (d0 : 0 ≤ d) (e1 : H l1 = some (.tup x1)) (e2 : H l2 = some (.lst x2)) (e3 : H l3 = some (.dK kv)) (h0 : 0 ≤ r) (h1 : r < 12) : ∃ v, atI [V.int 65, V.int (-65), V.int (65 + d), V.int (-65 - d), V.non, V.bl true, V.bl false, V.str "0", V.str "", V.ref l1, V.ref l2, V.ref l3] r = some v ∧ BadP H v ∧ ∀ p, v = .ref p → p = l1 ∨ p = l2 ∨ p = l3 := by
  rcases (by omega : r = 0 ∨ r = 1 ∨ r = 2 ∨ r = 3 ∨ r = 4 ∨ r = 5 ∨ r = 6 ∨ r = 7 ∨ r = 8 ∨ r = 9 ∨ r = 10 ∨ r = 11) with rfl | rfl | rfl | rfl | rfl | rfl | rfl | rfl | rfl | rfl | rfl | rfl
  · exact ⟨_, rfl, .inl ⟨_, rfl, by omega⟩, fun p e => by cases e⟩
  · exact ⟨_, rfl, .inl ⟨_, rfl, by omega⟩, fun p e => by cases e⟩
  · exact ⟨_, rfl, .inl ⟨_, rfl, by omega⟩, fun p e => by cases e⟩
  · exact ⟨_, rfl, .inl ⟨_, rfl, by omega⟩, fun p e => by cases e⟩
  · exact ⟨_, rfl, .inr (.inr ⟨_, .non, by decide +kernel⟩), fun p e => by cases e⟩
  · exact ⟨_, rfl, .inr (.inl ⟨_, rfl⟩), fun p e => by cases e⟩
  · exact ⟨_, rfl, .inr (.inl ⟨_, rfl⟩), fun p e => by cases e⟩
  · exact ⟨_, rfl, .inr (.inr ⟨_, .str _, by decide +kernel⟩), fun p e => by cases e⟩
  · exact ⟨_, rfl, .inr (.inr ⟨_, .str _, by decide +kernel⟩), fun p e => by cases e⟩
  · exact ⟨_, rfl, .inr (.inr ⟨_, .tup e1, by decide +kernel⟩), fun p e => by cases e; simp⟩
  · exact ⟨_, rfl, .inr (.inr ⟨_, .lst e2, by decide +kernel⟩), fun p e => by cases e; simp⟩
  · exact ⟨_, rfl, .inr (.inr ⟨_, .dK e3, by decide +kernel⟩), fun p e => by cases e; simp⟩
theorem pickM {K : PySem.W.Frag} {H : Hp} {dM : Addr} {l1 l2 l3 : Addr} {x1 x2 : List V} {kv : List (Key × V)} {r d : Int} (B : Bads K dM) (e1 : H l1 = some (.tup x1)) (e2 : H l2 = some (.lst x2)) (e3 : H l3 = some (.dK kv)) (h0 : 0 ≤ r) (h1 : r < 13) : ∃ v, atI [V.str "", V.str "Half", V.str "half ", V.str "near", V.str "wrap", V.non, V.bl true, V.int 4, V.ref l1, V.ref l2, V.ref l3, V.str "stop", V.str "halfeven"] r = some v ∧ BadM K dM H v ∧ ∀ p, v = .ref p → p = l1 ∨ p = l2 ∨ p = l3 := by
  rcases (by omega : r = 0 ∨ r = 1 ∨ r = 2 ∨ r = 3 ∨ r = 4 ∨ r = 5 ∨ r = 6 ∨ r = 7 ∨ r = 8 ∨ r = 9 ∨ r = 10 ∨ r = 11 ∨ r = 12) with rfl | rfl | rfl | rfl | rfl | rfl | rfl | rfl | rfl | rfl | rfl | rfl | rfl
  · exact ⟨_, rfl, .inl ⟨_, rfl, B.b0⟩, fun p e => by cases e⟩
  · exact ⟨_, rfl, .inl ⟨_, rfl, B.b1⟩, fun p e => by cases e⟩
  · exact ⟨_, rfl, .inl ⟨_, rfl, B.b2⟩, fun p e => by cases e⟩
  · exact ⟨_, rfl, .inl ⟨_, rfl, B.b3⟩, fun p e => by cases e⟩
  · exact ⟨_, rfl, .inl ⟨_, rfl, B.b4⟩, fun p e => by cases e⟩
  · exact ⟨_, rfl, .inr ⟨_, .non, by decide +kernel⟩, fun p e => by cases e⟩
  · exact ⟨_, rfl, .inr ⟨_, .bl _, by decide +kernel⟩, fun p e => by cases e⟩
  · exact ⟨_, rfl, .inr ⟨_, .int _, by decide +kernel⟩, fun p e => by cases e⟩
  · exact ⟨_, rfl, .inr ⟨_, .tup e1, by decide +kernel⟩, fun p e => by cases e; simp⟩
  · exact ⟨_, rfl, .inr ⟨_, .lst e2, by decide +kernel⟩, fun p e => by cases e; simp⟩
  · exact ⟨_, rfl, .inr ⟨_, .dK e3, by decide +kernel⟩, fun p e => by cases e; simp⟩
  · exact ⟨_, rfl, .inl ⟨_, rfl, B.b5⟩, fun p e => by cases e⟩
  · exact ⟨_, rfl, .inl ⟨_, rfl, B.b6⟩, fun p e => by cases e⟩
theorem pickE {K : PySem.W.Frag} {H : Hp} {dM : Addr} {l1 l2 l3 : Addr} {x1 x2 : List V} {kv : List (Key × V)} {r d : Int} (e1 : H l1 = some (.tup x1)) (e2 : H l2 = some (.lst x2)) (e3 : H l3 = some (.dK kv)) (h0 : 0 ≤ r) (h1 : r < 13) : ∃ v, atI [V.str "", V.str "Wrap", V.str "stop ", V.str "wraps", V.str "half", V.non, V.bl false, V.int 0, V.ref l1, V.ref l2, V.ref l3, V.str "bar", V.str "wrap stop"] r = some v ∧ BadE H v ∧ ∀ p, v = .ref p → p = l1 ∨ p = l2 ∨ p = l3 := by
  rcases (by omega : r = 0 ∨ r = 1 ∨ r = 2 ∨ r = 3 ∨ r = 4 ∨ r = 5 ∨ r = 6 ∨ r = 7 ∨ r = 8 ∨ r = 9 ∨ r = 10 ∨ r = 11 ∨ r = 12) with rfl | rfl | rfl | rfl | rfl | rfl | rfl | rfl | rfl | rfl | rfl | rfl | rfl
  · exact ⟨_, rfl, .inl ⟨_, rfl, by decide +kernel⟩, fun p e => by cases e⟩
  · exact ⟨_, rfl, .inl ⟨_, rfl, by decide +kernel⟩, fun p e => by cases e⟩
  · exact ⟨_, rfl, .inl ⟨_, rfl, by decide +kernel⟩, fun p e => by cases e⟩
  · exact ⟨_, rfl, .inl ⟨_, rfl, by decide +kernel⟩, fun p e => by cases e⟩
  · exact ⟨_, rfl, .inl ⟨_, rfl, by decide +kernel⟩, fun p e => by cases e⟩
  · exact ⟨_, rfl, .inr ⟨_, .non, by decide +kernel⟩, fun p e => by cases e⟩
  · exact ⟨_, rfl, .inr ⟨_, .bl _, by decide +kernel⟩, fun p e => by cases e⟩
  · exact ⟨_, rfl, .inr ⟨_, .int _, by decide +kernel⟩, fun p e => by cases e⟩
  · exact ⟨_, rfl, .inr ⟨_, .tup e1, by decide +kernel⟩, fun p e => by cases e; simp⟩
  · exact ⟨_, rfl, .inr ⟨_, .lst e2, by decide +kernel⟩, fun p e => by cases e; simp⟩
  · exact ⟨_, rfl, .inr ⟨_, .dK e3, by decide +kernel⟩, fun p e => by cases e; simp⟩
  · exact ⟨_, rfl, .inl ⟨_, rfl, by decide +kernel⟩, fun p e => by cases e⟩
  · exact ⟨_, rfl, .inl ⟨_, rfl, by decide +kernel⟩, fun p e => by cases e⟩
section
variable {P : Program} {w : World} {K : PySem.W.Frag} {mg : Str → Option Value} {base : Heap}
theorem sc__law_bad_width : FnScope ["_law_well_here", "_law_distant", "_law_some"] ["_law_well_here"] (defScope s__law_bad_width) := ⟨rfl, rfl, rfl, by decide +kernel, rfl, by decide +kernel, by decide +kernel⟩
theorem ok__law_bad_width {f : Addr} {fd : FuncData} (F : Fun K "_law_bad_width" "_law_bad_width" s__law_bad_width f fd) (c__law_draw : Cal P w K mg base 1 "_law_draw" ["_law_well_here", "_law_many"] spDraw) : FnOk P w K mg base CX0 2 f fd ["_law_well_here"] (spBad BadW) := by
  refine F.ok sc__law_bad_width (fun vs H Q E h => ?_) (fun cdv A outer s H vs Q E hr h => ?_)
  · obtain ⟨a, c, rfl, _⟩ := h
    rfl
  · obtain ⟨a, c, rfl, hw, hc, q⟩ := h
    refine ⟨_, (pss_cons (ps_set (i := 1) sc__law_bad_width.nd rfl (.inl rfl) (pe_cal c__law_draw hr (pa_cons (pv 0) (pa_cons (pe_op op_pow pe_int pe_int) pa_nil))))
      (pss_cons (ps_set (i := 2) sc__law_bad_width.nd rfl (.inl rfl) (pe_lst (pa_cons pe_int (pa_cons pe_int (pa_cons pe_int (pa_cons (pe_un un_neg pe_int) (pa_cons (pe_op op_add pe_int (pv 1)) (pa_cons (pe_op op_sub pe_int (pv 1)) (pa_cons pe_bl (pa_cons pe_bl (pa_cons pe_str (pa_cons pe_str (pa_cons (pe_tup (pa_cons pe_int pa_nil)) (pa_cons (pe_lst (pa_cons pe_int pa_nil)) (pa_cons (pe_op op_pow pe_int pe_int) pa_nil)))))))))))))))
      (pss_one (ps_ret (pe_ix ix_list (pv 2) (pe_cal c__law_draw hr (pa_cons (pv 0) (pa_cons pe_int pa_nil))) (fun _ _ => rfl)))))), ?_⟩
    refine ⟨_, rfl, _, _, rfl, rfl, ⟨by decide, by decide, by decide⟩, a, c, _, rfl, hw, by omega, by decide, by decide, fun r1 H1 r10 r11 d1 d1' w1 => ?_⟩
    refine ⟨_, rfl, _, rfl, _, _, rfl, rfl, _, rfl, _, _, rfl, rfl, (by show 1 ≤ sizeLine; decide), fun l1 hl1 => ⟨(by show 1 ≤ sizeLine; decide), fun l2 hl2 => ⟨_, _, rfl, rfl, ⟨by decide, by decide, by decide⟩, (by show 13 ≤ sizeLine; decide), fun l4 hl4 => ?_⟩⟩⟩
    have q1 := same_new (o := .tup [.int 8]) hl1
    have q2 := same_new (o := .lst [.int 8]) hl2
    have q4 := same_new (o := .lst [V.int 1, V.int 65, V.int 0, V.int (-1), V.int (65 + r1), V.int (0 - r1), V.bl true, V.bl false, V.str "8", V.str "", V.ref l1, V.ref l2, V.int (2 ^ (40 : Int).toNat)]) hl4
    have E1 := q4 _ _ (q2 _ _ (upd_same (H := H1) (a := l1) (o := .tup [.int 8])))
    have E2 := q4 _ _ (upd_same (H := upd H1 l1 (.tup [.int 8])) (a := l2) (o := .lst [.int 8]))
    have S4 : Same H1 _ := q1.trans (q2.trans q4)
    have W4 := w1.same S4
    have n1 : l1 ≠ a := w1.ne hl1
    have n2 : l2 ≠ a := (w1.same q1).ne hl2
    have n4 : l4 ≠ a := (w1.same (q1.trans q2)).ne hl4
    have f1 : H1 l1 = none := hl1
    have f2 : H1 l2 = none := q1.free hl2
    refine ⟨_, rfl, _, rfl, a, c + 1, 13, rfl, W4, by omega, by decide, by decide, fun r5 H5 r50 r51 d5 d5' w5 => ?_⟩
    obtain ⟨v5, a5, b5, p5⟩ := pickW (d := r1) (K := K) (dM := a) (kv := []) r10 (d5 _ _ n1 E1) (d5 _ _ n2 E2) r50 r51
    refine ⟨l4, _, r5, v5, rfl, rfl, SqL.of (d5 _ _ n4 upd_same), a5, q v5 H5 (d1.trans ((SameBut.of S4).trans d5)) (w5.mono (by omega)) b5 fun p hp => ?_⟩
    rcases p5 p hp with rfl | rfl
    · exact d1.free w1 f1
    · exact d1.free w1 f2

theorem sc__law_bad_point : FnScope ["_law_well_here", "_law_distant", "_law_some"] ["_law_well_here"] (defScope s__law_bad_point) := ⟨rfl, rfl, rfl, by decide +kernel, rfl, by decide +kernel, by decide +kernel⟩
theorem ok__law_bad_point {f : Addr} {fd : FuncData} (F : Fun K "_law_bad_point" "_law_bad_point" s__law_bad_point f fd) (c__law_draw : Cal P w K mg base 1 "_law_draw" ["_law_well_here", "_law_many"] spDraw) : FnOk P w K mg base CX0 2 f fd ["_law_well_here"] (spBad BadP) := by
  refine F.ok sc__law_bad_point (fun vs H Q E h => ?_) (fun cdv A outer s H vs Q E hr h => ?_)
  · obtain ⟨a, c, rfl, _⟩ := h
    rfl
  · obtain ⟨a, c, rfl, hw, hc, q⟩ := h
    refine ⟨_, (pss_cons (ps_set (i := 1) sc__law_bad_point.nd rfl (.inl rfl) (pe_cal c__law_draw hr (pa_cons (pv 0) (pa_cons (pe_op op_pow pe_int pe_int) pa_nil))))
      (pss_cons (ps_set (i := 2) sc__law_bad_point.nd rfl (.inl rfl) (pe_lst (pa_cons pe_int (pa_cons (pe_un un_neg pe_int) (pa_cons (pe_op op_add pe_int (pv 1)) (pa_cons (pe_op op_sub (pe_un un_neg pe_int) (pv 1)) (pa_cons pe_non (pa_cons pe_bl (pa_cons pe_bl (pa_cons pe_str (pa_cons pe_str (pa_cons (pe_tup (pa_cons pe_int pa_nil)) (pa_cons (pe_lst (pa_cons pe_int pa_nil)) (pa_cons pe_dnewK pa_nil))))))))))))))
      (pss_one (ps_ret (pe_ix ix_list (pv 2) (pe_cal c__law_draw hr (pa_cons (pv 0) (pa_cons pe_int pa_nil))) (fun _ _ => rfl)))))), ?_⟩
    refine ⟨_, rfl, _, _, rfl, rfl, ⟨by decide, by decide, by decide⟩, a, c, _, rfl, hw, by omega, by decide, by decide, fun r1 H1 r10 r11 d1 d1' w1 => ?_⟩
    refine ⟨_, rfl, _, rfl, _, _, rfl, rfl, _, rfl, _, rfl, _, _, rfl, rfl, (by show 1 ≤ sizeLine; decide), fun l1 hl1 => ⟨(by show 1 ≤ sizeLine; decide), fun l2 hl2 => fun l3 hl3 => ⟨(by show 12 ≤ sizeLine; decide), fun l4 hl4 => ?_⟩⟩⟩
    have q1 := same_new (o := .tup [.int 0]) hl1
    have q2 := same_new (o := .lst [.int 0]) hl2
    have q3 := same_new (o := .dK []) hl3
    have q4 := same_new (o := .lst [V.int 65, V.int (-65), V.int (65 + r1), V.int (-65 - r1), V.non, V.bl true, V.bl false, V.str "0", V.str "", V.ref l1, V.ref l2, V.ref l3]) hl4
    have E1 := q4 _ _ (q3 _ _ (q2 _ _ (upd_same (H := H1) (a := l1) (o := .tup [.int 0]))))
    have E2 := q4 _ _ (q3 _ _ (upd_same (H := upd H1 l1 (.tup [.int 0])) (a := l2) (o := .lst [.int 0])))
    have E3 := q4 _ _ (upd_same (H := upd (upd H1 l1 (.tup [.int 0])) l2 (.lst [.int 0])) (a := l3) (o := .dK []))
    have S4 : Same H1 _ := q1.trans (q2.trans (q3.trans q4))
    have W4 := w1.same S4
    have n1 : l1 ≠ a := w1.ne hl1
    have n2 : l2 ≠ a := (w1.same q1).ne hl2
    have n3 : l3 ≠ a := (w1.same (q1.trans q2)).ne hl3
    have n4 : l4 ≠ a := (w1.same (q1.trans (q2.trans q3))).ne hl4
    have f1 : H1 l1 = none := hl1
    have f2 : H1 l2 = none := q1.free hl2
    have f3 : H1 l3 = none := (q1.trans q2).free hl3
    refine ⟨_, rfl, _, rfl, a, c + 1, 12, rfl, W4, by omega, by decide, by decide, fun r5 H5 r50 r51 d5 d5' w5 => ?_⟩
    obtain ⟨v5, a5, b5, p5⟩ := pickP (d := r1) (K := K) (dM := a) r10 (d5 _ _ n1 E1) (d5 _ _ n2 E2) (d5 _ _ n3 E3) r50 r51
    refine ⟨l4, _, r5, v5, rfl, rfl, SqL.of (d5 _ _ n4 upd_same), a5, q v5 H5 (d1.trans ((SameBut.of S4).trans d5)) (w5.mono (by omega)) b5 fun p hp => ?_⟩
    rcases p5 p hp with rfl | rfl | rfl
    · exact d1.free w1 f1
    · exact d1.free w1 f2
    · exact d1.free w1 f3

theorem sc__law_bad_manner : FnScope ["_law_well_here", "_law_some"] ["_law_well_here"] (defScope s__law_bad_manner) := ⟨rfl, rfl, rfl, by decide +kernel, rfl, by decide +kernel, by decide +kernel⟩
theorem ok__law_bad_manner {f : Addr} {fd : FuncData} {dM : Addr} (B : Bads K dM) (F : Fun K "_law_bad_manner" "_law_bad_manner" s__law_bad_manner f fd) (c__law_draw : Cal P w K mg base 1 "_law_draw" ["_law_well_here", "_law_many"] spDraw) : FnOk P w K mg base CX0 2 f fd ["_law_well_here"] (spBad (BadM K dM)) := by
  refine F.ok sc__law_bad_manner (fun vs H Q E h => ?_) (fun cdv A outer s H vs Q E hr h => ?_)
  · obtain ⟨a, c, rfl, _⟩ := h
    rfl
  · obtain ⟨a, c, rfl, hw, hc, q⟩ := h
    refine ⟨_, (pss_cons (ps_set (i := 1) sc__law_bad_manner.nd rfl (.inl rfl) (pe_lst (pa_cons pe_str (pa_cons pe_str (pa_cons pe_str (pa_cons pe_str (pa_cons pe_str (pa_cons pe_non (pa_cons pe_bl (pa_cons pe_int (pa_cons (pe_tup (pa_cons pe_str pa_nil)) (pa_cons (pe_lst (pa_cons pe_str pa_nil)) (pa_cons pe_dnewK (pa_cons pe_str (pa_cons pe_str pa_nil)))))))))))))))
      (pss_one (ps_ret (pe_ix ix_list (pv 1) (pe_cal c__law_draw hr (pa_cons (pv 0) (pa_cons pe_int pa_nil))) (fun _ _ => rfl))))), ?_⟩
    refine ⟨(by show 1 ≤ sizeLine; decide), fun l1 hl1 => ⟨(by show 1 ≤ sizeLine; decide), fun l2 hl2 => fun l3 hl3 => ⟨(by show 13 ≤ sizeLine; decide), fun l4 hl4 => ?_⟩⟩⟩
    have q1 := same_new (o := .tup [.str "half"]) hl1
    have q2 := same_new (o := .lst [.str "half"]) hl2
    have q3 := same_new (o := .dK []) hl3
    have q4 := same_new (o := .lst [V.str "", V.str "Half", V.str "half ", V.str "near", V.str "wrap", V.non, V.bl true, V.int 4, V.ref l1, V.ref l2, V.ref l3, V.str "stop", V.str "halfeven"]) hl4
    have E1 := q4 _ _ (q3 _ _ (q2 _ _ (upd_same (H := H) (a := l1) (o := .tup [.str "half"]))))
    have E2 := q4 _ _ (q3 _ _ (upd_same (H := upd H l1 (.tup [.str "half"])) (a := l2) (o := .lst [.str "half"])))
    have E3 := q4 _ _ (upd_same (H := upd (upd H l1 (.tup [.str "half"])) l2 (.lst [.str "half"])) (a := l3) (o := .dK []))
    have S4 : Same H _ := q1.trans (q2.trans (q3.trans q4))
    have W4 := hw.same S4
    have n1 : l1 ≠ a := hw.ne hl1
    have n2 : l2 ≠ a := (hw.same q1).ne hl2
    have n3 : l3 ≠ a := (hw.same (q1.trans q2)).ne hl3
    have n4 : l4 ≠ a := (hw.same (q1.trans (q2.trans q3))).ne hl4
    have f1 : H l1 = none := hl1
    have f2 : H l2 = none := q1.free hl2
    have f3 : H l3 = none := (q1.trans q2).free hl3
    refine ⟨_, rfl, _, rfl, a, c, 13, rfl, W4, by omega, by decide, by decide, fun r5 H5 r50 r51 d5 d5' w5 => ?_⟩
    obtain ⟨v5, a5, b5, p5⟩ := pickM (d := 0) B (d5 _ _ n1 E1) (d5 _ _ n2 E2) (d5 _ _ n3 E3) r50 r51
    refine ⟨l4, _, r5, v5, rfl, rfl, SqL.of (d5 _ _ n4 upd_same), a5, q v5 H5 (((SameBut.of S4).trans d5)) (w5.mono (by omega)) b5 fun p hp => ?_⟩
    rcases p5 p hp with rfl | rfl | rfl
    · exact f1
    · exact f2
    · exact f3

theorem sc__law_bad_ends : FnScope ["_law_well_here", "_law_some"] ["_law_well_here"] (defScope s__law_bad_ends) := ⟨rfl, rfl, rfl, by decide +kernel, rfl, by decide +kernel, by decide +kernel⟩
theorem ok__law_bad_ends {f : Addr} {fd : FuncData} (F : Fun K "_law_bad_ends" "_law_bad_ends" s__law_bad_ends f fd) (c__law_draw : Cal P w K mg base 1 "_law_draw" ["_law_well_here", "_law_many"] spDraw) : FnOk P w K mg base CX0 2 f fd ["_law_well_here"] (spBad BadE) := by
  refine F.ok sc__law_bad_ends (fun vs H Q E h => ?_) (fun cdv A outer s H vs Q E hr h => ?_)
  · obtain ⟨a, c, rfl, _⟩ := h
    rfl
  · obtain ⟨a, c, rfl, hw, hc, q⟩ := h
    refine ⟨_, (pss_cons (ps_set (i := 1) sc__law_bad_ends.nd rfl (.inl rfl) (pe_lst (pa_cons pe_str (pa_cons pe_str (pa_cons pe_str (pa_cons pe_str (pa_cons pe_str (pa_cons pe_non (pa_cons pe_bl (pa_cons pe_int (pa_cons (pe_tup (pa_cons pe_str pa_nil)) (pa_cons (pe_lst (pa_cons pe_str pa_nil)) (pa_cons pe_dnewK (pa_cons pe_str (pa_cons pe_str pa_nil)))))))))))))))
      (pss_one (ps_ret (pe_ix ix_list (pv 1) (pe_cal c__law_draw hr (pa_cons (pv 0) (pa_cons pe_int pa_nil))) (fun _ _ => rfl))))), ?_⟩
    refine ⟨(by show 1 ≤ sizeLine; decide), fun l1 hl1 => ⟨(by show 1 ≤ sizeLine; decide), fun l2 hl2 => fun l3 hl3 => ⟨(by show 13 ≤ sizeLine; decide), fun l4 hl4 => ?_⟩⟩⟩
    have q1 := same_new (o := .tup [.str "wrap"]) hl1
    have q2 := same_new (o := .lst [.str "stop"]) hl2
    have q3 := same_new (o := .dK []) hl3
    have q4 := same_new (o := .lst [V.str "", V.str "Wrap", V.str "stop ", V.str "wraps", V.str "half", V.non, V.bl false, V.int 0, V.ref l1, V.ref l2, V.ref l3, V.str "bar", V.str "wrap stop"]) hl4
    have E1 := q4 _ _ (q3 _ _ (q2 _ _ (upd_same (H := H) (a := l1) (o := .tup [.str "wrap"]))))
    have E2 := q4 _ _ (q3 _ _ (upd_same (H := upd H l1 (.tup [.str "wrap"])) (a := l2) (o := .lst [.str "stop"])))
    have E3 := q4 _ _ (upd_same (H := upd (upd H l1 (.tup [.str "wrap"])) l2 (.lst [.str "stop"])) (a := l3) (o := .dK []))
    have S4 : Same H _ := q1.trans (q2.trans (q3.trans q4))
    have W4 := hw.same S4
    have n1 : l1 ≠ a := hw.ne hl1
    have n2 : l2 ≠ a := (hw.same q1).ne hl2
    have n3 : l3 ≠ a := (hw.same (q1.trans q2)).ne hl3
    have n4 : l4 ≠ a := (hw.same (q1.trans (q2.trans q3))).ne hl4
    have f1 : H l1 = none := hl1
    have f2 : H l2 = none := q1.free hl2
    have f3 : H l3 = none := (q1.trans q2).free hl3
    refine ⟨_, rfl, _, rfl, a, c, 13, rfl, W4, by omega, by decide, by decide, fun r5 H5 r50 r51 d5 d5' w5 => ?_⟩
    obtain ⟨v5, a5, b5, p5⟩ := pickE (d := 0) (K := K) (dM := a) (d5 _ _ n1 E1) (d5 _ _ n2 E2) (d5 _ _ n3 E3) r50 r51
    refine ⟨l4, _, r5, v5, rfl, rfl, SqL.of (d5 _ _ n4 upd_same), a5, q v5 H5 (((SameBut.of S4).trans d5)) (w5.mono (by omega)) b5 fun p hp => ?_⟩
    rcases p5 p hp with rfl | rfl | rfl
    · exact f1
    · exact f2
    · exact f3

end
end E1

namespace E1
open PySem PySem.Spec PyProof.Rows L2
/-! ### a lambda called by the def that got it, with that def's own slots in what it wants of errors -/
section
variable {X : Cx}
abbrev lamQ (X : Cx) : Str := X.env.qual ++ "<lambda>"
abbrev lamOb (X : Cx) (pr : Arguments) (bd : Expr) (sc : Scope) (nm : Value) (cd : Addr) (ctx : Value) : Obj := PySem.W.kla_obj "<lambda>" (lamQ X) pr bd sc (cloFrom X.env.cells sc.names []) nm cd ctx
/-- the context of the def at g, called from X at state s -/
abbrev gotCx (X : Cx) (Ng : List Str) (qg : Str) (sg : Scope) (g : Addr) (cdg : Value) (s : Shared) (H : Hp) : Cx := cxOf C8.CX0 X.prog X.w X.K X.mg X.base Ng qg sg g cdg X.A X.stack s H C8.E0
theorem pe_actS {pins : List (Addr × Obj)} {σ : L2.St} {H : Hp} {s : Shared} {Ng : List Str} {qg : Str} {sg : Scope} {g fl cd : Addr} {cdg nm ctx : Value} {pr : Arguments} {bd : Expr} {sc : Scope} {k i : Nat} {a : Str} {pn : List (Addr × Obj)} {xe : Value → Shared → Prop} {W : WX} {t : XK → TE} {p1 p2 : Pos}
    (I : Inv X pins σ H s) (L : LamX.LamS X.env.scope sc) (ho : s.heap.get? fl = some (lamOb X pr bd sc nm cd ctx)) (hn : H fl = none) (hs : fl ∉ frs X.stack)
    (hb : bindArgs (PySem.W.kla_fn "<lambda>" (lamQ X) pr bd sc (cloFrom X.env.cells sc.names []) nm (.ref cd) ctx) ⟨[], []⟩ = pure [])
    (tk : Takes ((gotCx X Ng qg sg g cdg s H).tr pn xe) W) (rm : Room (k + 1) (X.A.deeper (envOfC qg sg s.heap.objs.size g cdg)))
    (hbd : ∀ (E : XK) (A : Around) (out : List Env) (s : Shared) (H : Hp), Room k (A.deeper (LamX.lamEnv X sc s.heap.objs.size fl cd)) → PE (LamX.lamCx X A out s H E sc fl cd) bd (t E))
    (hN : Ng[i]? = some a) (hv : Vis sg a) (h1 : (a == ("__debug__" : Str)) = false := by decide) (h2 : (a == ("__classdict__" : Str)) = false := by decide) :
    PE ((gotCx X Ng qg sg g cdg s H).tr pn xe) (.Call (.Name a p1) [] [] p2)
      (fun τ G Q => τ[i]? = some (some (.ref fl)) ∧ G cd = some (LamX.CodeO cd (lamQ X)) ∧ t (WE W τ) σ G Q) := by
  constructor
  intro pz sz τ G Q J ⟨hτ, hG, ht⟩
  have nameRun := (pe_var (X := (gotCx X Ng qg sg g cdg s H).tr pn xe) (pos := p1) (i := i) hN hv h1 h2).run pz sz τ G (fun v G' => v = .ref fl ∧ G' = G) J ⟨.ref fl, hτ, rfl, rfl⟩
  refine wpAny_Call_Name_kw (thn nameRun fun u s1 ⟨v, G', J1, rv, ev, eG⟩ => ?_)
  subst ev eG
  obtain rfl : u = Value.ref fl := rv
  have obj1 := J1.base.keep fl _ ho hn hs (fun z => absurd z (by simp [gotCx, cxOf, Cx.tr]))
  refine PySem.W.callWith_F0 ⟨_, _, _, _, obj1⟩ ?_
  have old : Un (frs X.stack) [] H G' s.heap s1.heap := J1.base
  obtain ⟨⟨oc, vs, tk9, hoc, hdc, hvc⟩, _, _⟩ := J1.hok cd _ hG
  have through : codeAny (model X.prog X.w) (X.A.deeper (envOfC qg sg s.heap.objs.size g cdg)) (.call (.ref fl) ⟨[], []⟩)
      (CR (L2.CX X.prog X.w) (envOfC qg sg s.heap.objs.size g cdg :: X.stack) X.prog X.w G' s1 Q (WE W τ)) s1 := by
    refine PySem.W.kla_callFunE rm.depth obj1 rfl L.co L.gen rfl ⟨cd, oc, vs, tk9, rfl, hoc, hdc, hvc⟩ ?_
    rw [hb]
    refine wpAny_pure (wpAny_newFunctionEnv (fun y m => (L.own y m).2) (fun y m => absurd m (by simp)) (fun hp ns sb => ⟨J1.nolimit.fresh _ sb, ?_⟩) L.kind)
    show codeAny _ _ (.expr bd (LamX.lamEnv X sc s1.heap.objs.size fl cd)) _ _
    have still : ∀ b o, s1.heap.get? b = some o → hp.get? b = some o := fun b o e => sb.extBut b o (Nat.ne_of_lt (Heap.lt_size e)) (Heap.get?_push_of_some _ e)
    have J2 := LamX.lam_start2 (E := WE W τ) (f := fl) (c' := cd) (tk := s1.toks + ([] : List (Str × Value)).length) I L J1.env0 rm.hd old ns still
    refine PySem.W.kla_codeExpr (wpAny_mono ((hbd (WE W τ) _ _ s1 G' (rm.deeper _)).run [] _ _ G' Q J2 ht) (fun v s' ⟨v', G2, J3, rv, qv⟩ => ⟨v', G2, J3.os, J3.bare, J3.base, J3.hok, rv, qv⟩) fun e s' hq => hq)
  have pass := passAt tk τ
  refine wpAny_call (codeAny_mono through fun r s' hq => ?_)
  match r, hq with
  | .error e, hq => exact pass pz G' s1 e s' J1 hq
  | .ok (.ret u), hq => exact J1.after hq
  | .ok .next, hq => exact hq.elim
  | .ok .brk, hq => exact hq.elim
  | .ok .cont, hq => exact hq.elim
/-- the def that calls what it got; TT: what it makes of the lambda's reading -/
def GivesS (X : Cx) (Ng : List Str) (x : Str) (sg : Scope) (g : Addr) (cdg : Value) (bg : List Stmt) (a : Str) (TT : (XK → Hp → VK → Prop) → Hp → VK → Prop) : Prop :=
  ∀ (fl cd : Addr) (s : Shared) (H : Hp) (Q : VK) (tl : XK → Hp → VK → Prop),
    (∀ (W : WX) (pn : List (Addr × Obj)) (xe : Value → Shared → Prop) (p1 p2 : Pos), Takes ((gotCx X Ng x sg g cdg s H).tr pn xe) W →
      PE ((gotCx X Ng x sg g cdg s H).tr pn xe) (.Call (.Name a p1) [] [] p2) (fun τ G Q => τ[0]? = some (some (.ref fl)) ∧ G cd = some (LamX.CodeO cd (lamQ X)) ∧ tl (WE W τ) G Q)) →
    H cd = some (LamX.CodeO cd (lamQ X)) → TT tl H Q →
    ∃ t, PSs (gotCx X Ng x sg g cdg s H).nox bg t ∧ t { nx := fun _ H' => Q .non H', rt := Q } (L2.start Ng [.ref fl]) H
/-- a def of the text that is handed a lambda -/
structure GotFn (K : PySem.W.Frag) (mg : Str → Option Value) (x a : Str) (st : Stmt) (Ng : List Str) (g : Addr) (cdg : Value) : Prop where
  gm : mg x = some (.ref g)
  kp : PySem.W.keepIn K (.ref g) = true
  fn : ∃ (oc : Value) (od : Option Addr) (dV kV doc pm ct : Value) (an : Option Addr) (osl : Array (Option Value)),
    K.lookup g = some ⟨oc, od, .func (PySem.W.fnOf x x (defArgs st) (defBody st) (defScope st) dV kV doc pm an cdg ct), osl⟩ ∧ L2.Binds K (PySem.W.fnOf x x (defArgs st) (defBody st) (defScope st) dV kV doc pm an cdg ct) [a] []
  cd : PySem.W.codeIn K cdg x = true
  sc : FnScope Ng [a] (defScope st)
  n0 : Ng[0]? = some a
  vs : Vis (defScope st) a
theorem pe_lamS {T : List (Addr × Str)} {TT : (XK → Hp → VK → Prop) → Hp → VK → Prop} {x a : Str} {g c P : Addr} {k j : Nat} {st : Stmt} {cdg : Value} {Ng : List Str} {pr : Arguments} {bd : Expr} {sc : Scope} {t : XK → TE} {p lp pos : Pos}
    (G : GotFn X.K X.mg x a st Ng g cdg) (hG : GivesS X Ng x (defScope st) g cdg (defBody st) a TT) (TB : LamX.TabB X.base X.mg c P) (rm : Room j X.A)
    (hbd : ∀ (E : XK) (A : Around) (out : List Env) (s : Shared) (H : Hp) (fl cd : Addr), Room k (A.deeper (LamX.lamEnv X sc s.heap.objs.size fl cd)) → PE (LamX.lamCx X A out s H E sc fl cd) bd (t E))
    (hc : X.env.code = .ref c := by rfl) (hm : (P, lamQ X) ∈ T := by exact List.mem_cons_self) (hu : ∀ p ∈ T, p.1 = P → p.2 = lamQ X := by (intro p hp _; cases List.mem_singleton.mp hp; rfl)) (L : LamX.LamS X.env.scope sc := by exact LamX.lamS_by (by decide +kernel)) (hd : defaultsOf pr X.env = ([], []) := by rfl)
    (hb : ∀ (q : Str) (cl : List (Str × Addr)) (nm cv ctx : Value), bindArgs (PySem.W.kla_fn "<lambda>" q pr bd sc cl nm cv ctx) ⟨[], []⟩ = pure [] := by intros; rfl)
    (hle : k + 2 ≤ j := by decide) (hg : Gl X x := by rfl) (h0 : (x == ("__debug__" : Str)) = false := by decide) (h1 : (a == ("__debug__" : Str)) = false := by decide) (h2 : (a == ("__classdict__" : Str)) = false := by decide) :
    PE X (.Call (.Name x p) [.Lambda pr bd sc lp] [] pos) (LamX.tLam T TT t) := by
  constructor
  intro pins s σ H Q I ⟨hT, h⟩
  obtain ⟨oc, od, dV, kV, doc, pm, ct, an, osl, lk, bnd⟩ := G.fn
  refine wpAny_Call_Name_kw (ld_glob I hg G.gm ?_ h0)
  refine PySem.W.callWith_K (h₀ := X.base) I.ok.mod.kin G.kp ?_ (by rfl) (by rfl)
  show wpAny _ _ (spliced ((false, eval (.Lambda pr bd sc lp) X.env) :: backTo pos (starEach [] X.env))) _ _ s
  refine Calls.spliced_cons (LamX.lam_make2 I TB hc hm hu hT hd (L.has I.ok) fun fl cd nm ctx H1 s1 I1 en T1 ho hn hs hco => Calls.spliced_nil ⟨I1.kIn, ?_⟩)
  have through : codeAny (model X.prog X.w) X.A (.call (.ref g) ⟨[.ref fl], []⟩) (CR C8.CX0 X.stack X.prog X.w H1 s1 Q C8.E0) s1 := by
    refine LamX.run_ofS (k := k + 1) (us := [.ref fl]) (vs := [.ref fl]) lk G.cd G.sc (rm.mono hle) I1.env0 (bnd s1 [.ref fl] I1.kIn rfl) (.cons rfl .nil) rfl fun rm' => ?_
    obtain ⟨t', ps', q'⟩ := hG fl cd s1 H1 Q (fun E G' Q' => t E σ G' Q') (fun W pn xe p1 p2 tk => pe_actS (i := 0) I1 L ho hn hs (hb _ _ _ _ _) tk rm' (fun E A out s H r => hbd E A out s H fl cd r) G.n0 G.vs h1 h2) hco (h H1 en T1)
    exact ⟨t', ps'.nox, q'⟩
  refine wpAny_call (codeAny_mono through fun r s2 hq => ?_)
  match r, hq with
  | .error e, hq => exact (show False from hq).elim
  | .ok (.ret u), hq => exact I1.after hq
  | .ok .next, hq => exact hq.elim
  | .ok .brk, hq => exact hq.elim
  | .ok .cont, hq => exact hq.elim
end

end E1

namespace E1
open PySem PySem.Spec PyProof.Rows L2

/-- a def of the text with its code object -/
structure FunC (K : PySem.W.Frag) (x : Str) (st : Stmt) (f : Addr) (fd : FuncData) (c : Addr) : Prop where
  ex : ∃ (oc : Value) (od : Option Addr) (kV doc pm : Value) (an : Option Addr) (ct : Value) (osl : Array (Option Value)),
    fd = PySem.W.fnOf x x (defArgs st) (defBody st) (defScope st) .none kV doc pm an (.ref c) ct ∧ K.lookup f = some ⟨oc, od, .func fd, osl⟩ ∧ PySem.W.codeIn K (.ref c) x = true
theorem FunC.ok {P : Program} {w : World} {K : PySem.W.Frag} {mg : Str → Option Value} {base : Heap} {x : Str} {st : Stmt} {f c : Addr} {fd : FuncData} {N ps : List Str} {k : Nat} {sp : Sp} (F : FunC K x st f fd c) (S : FnScope N ps (defScope st)) (len : ∀ vs H Q E, sp vs H Q E → vs.length = ps.length)
    (hb : ∀ (A : Around) (out : List Env) (s : Shared) (H : Hp) (vs : List V) (Q : VK) (E : XK), Room k (A.deeper (envOfC x (defScope st) s.heap.objs.size f (.ref c))) → sp vs H Q E →
      ∃ t, PSs (cxOf CX0 P w K mg base N x (defScope st) f (.ref c) A out s H E).nox (defBody st) t ∧ t { nx := fun _ H' => Q .non H', rt := Q } (start N vs) H) : FnOk P w K mg base CX0 (k + 1) f fd ps sp := by
  obtain ⟨oc, od, kV, doc, pm, an, ct, osl, rfl, lk, hcd⟩ := F.ex
  exact fn_of lk hcd S len fun A out s H vs Q E hr hsp => let ⟨t, h, q⟩ := hb A out s H vs Q E hr hsp; ⟨t, h.nox, q⟩
theorem got_of {K : PySem.W.Frag} {mg : Str → Option Value} {x a : Str} {st : Stmt} {Ng : List Str} {g : Addr} {fd : FuncData} (F : Fun K x x st g fd) (gm : mg x = some (.ref g)) (b : Binds K fd [a] []) (sc : FnScope Ng [a] (defScope st)) (n0 : Ng[0]? = some a) (vs : Vis (defScope st) a) : ∃ cdg, GotFn K mg x a st Ng g cdg := by
  obtain ⟨oc, od, kV, doc, pm, an, cdv, ct, osl, rfl, lk, hcd⟩ := F.ex
  exact ⟨cdv, gm, F.kp, ⟨_, _, _, _, _, _, _, _, _, lk, b⟩, hcd, sc, n0, vs⟩

structure Errs (K : PySem.W.Frag) (mg : Str → Option Value) (CE CB CW CN CU CT : Addr) : Prop where
  gE : mg "EchoError" = some (.ref CE)
  gB : mg "BadForm" = some (.ref CB)
  gW : mg "BadNet" = some (.ref CW)
  gN : mg "NoFraction" = some (.ref CN)
  gU : mg "Unfit" = some (.ref CU)
  gT : mg "NoText" = some (.ref CT)
  XB : ExcC K CB
  noP : PySem.W.findIn K (.ref CB) "part" = some none
  ex : PySem.W.exmOne K (.ref CB) (.ref CE) = some true
  kB : PySem.W.kitOne K (.ref CB) (.ref CB) = some true
  kW : PySem.W.kitOne K (.ref CB) (.ref CW) = some false
  kN : PySem.W.kitOne K (.ref CB) (.ref CN) = some false
  kU : PySem.W.kitOne K (.ref CB) (.ref CU) = some false
  kT : PySem.W.kitOne K (.ref CB) (.ref CT) = some false
def TTold (CB : Addr) : (XK → Hp → VK → Prop) → Hp → VK → Prop := fun tl H Q => ∀ (E : XK) (Q' : VK),
  (∀ (dd : Addr) (part : Str) (H' : Hp), H' dd = some (.xd [("part", .str part)]) → (∀ H'', Same H' H'' → Q (.str part) H'') → E (.ref CB) (some dd) H') → tl E H Q'
theorem sc__law_told : FnScope ["_law_deed", "_law_found", "e", "_law_marks"] ["_law_deed"] (defScope s__law_told) := ⟨rfl, rfl, rfl, by decide +kernel, rfl, by decide +kernel, by decide +kernel⟩
theorem told_gives {X : Cx} {CE CB CW CN CU CT : Addr} (XX : Errs X.K X.mg CE CB CW CN CU CT) (EC : PySem.ErrX.ErrC X.K X.mg "BadForm" CB) (zi : X.mg "isinstance" = none) {k : Nat} (hr0 : Room (k + 1) X.A) {g : Addr} {cdg : Value} :
    GivesS X ["_law_deed", "_law_found", "e", "_law_marks"] "_law_told" (defScope s__law_told) g cdg (defBody s__law_told) "_law_deed" (TTold CB) := by
  intro fl cd s H Q tl act hc h
  have hr : ∀ env, Room k (X.A.deeper env) := fun env => hr0.deeper env
  refine ⟨_, pss_cons (ps_set (i := 1) sc__law_told.nd rfl (.inl rfl) pe_non)
    (pss_cons (ps_try_as (X := (gotCx X ["_law_deed", "_law_found", "e", "_law_marks"] "_law_told" (defScope s__law_told) g cdg s H).nox) (i := 2) (c := .ref CE) (tb := fun W D σ H => σ[0]? = some (some (.ref fl)) ∧ H cd = some (LamX.CodeO cd (lamQ X)) ∧ tl (WE W σ) H (fun _ H' => D.nx σ H')) (ts := fun a cls d => tSeq (tAsg (tLst (tCons (tCB (rIsX X.K a cls d) (tCons (tVar 2) (tCons (tC (.ref CB)) tNil))) (tCons (tCB (rIsX X.K a cls d) (tCons (tVar 2) (tCons (tC (.ref CW)) tNil))) (tCons (tCB (rIsX X.K a cls d) (tCons (tVar 2) (tCons (tC (.ref CN)) tNil))) (tCons (tCB (rIsX X.K a cls d) (tCons (tVar 2) (tCons (tC (.ref CU)) tNil))) tNil))))) (gName 3)) (tIfS (tAnd (tTest (tOp (rEqD X.K) (tVar 3) (tLst (tCons (tC (.bl true)) (tCons (tC (.bl false)) (tCons (tC (.bl false)) (tCons (tC (.bl false)) tNil))))))) (tNot (tB (tCB (rIsX X.K a cls d) (tCons (tVar 2) (tCons (tC (.ref CT)) tNil)))))) (tAsg (tXf a cls d CB "part" (tVar 2)) (gName 1)) tNext)) rfl rfl sc__law_told.nd rfl rfl ⟨rfl, by decide, .inl XX.gE⟩ takes0 (fun W pn xe tk _ => pss_one (ps_expr (act W pn xe _ _ tk)))
      (fun a oe cls d pn hz hf => (pss_cons (ps_set (i := 3) sc__law_told.nd rfl (.inl rfl) (pe_lst (pa_cons (pe_callB (call_isX hz hf) (by rfl) zi (by decide +kernel) (pa_cons (pv 2) (pa_cons (pe_glob (v := .ref CB) (by rfl) XX.gB rfl) pa_nil))) (pa_cons (pe_callB (call_isX hz hf) (by rfl) zi (by decide +kernel) (pa_cons (pv 2) (pa_cons (pe_glob (v := .ref CW) (by rfl) XX.gW rfl) pa_nil))) (pa_cons (pe_callB (call_isX hz hf) (by rfl) zi (by decide +kernel) (pa_cons (pv 2) (pa_cons (pe_glob (v := .ref CN) (by rfl) XX.gN rfl) pa_nil))) (pa_cons (pe_callB (call_isX hz hf) (by rfl) zi (by decide +kernel) (pa_cons (pv 2) (pa_cons (pe_glob (v := .ref CU) (by rfl) XX.gU rfl) pa_nil))) pa_nil))))))
      (pss_one (ps_if (PW.pt (pw_and (pt_cmpR (op_eqD (by exact (hr (envOfC "_law_told" (defScope s__law_told) s.heap.objs.size g cdg)).units)) (pv 3) (pe_lst (pa_cons pe_bl (pa_cons pe_bl (pa_cons pe_bl (pa_cons pe_bl pa_nil))))) (nomark _)) (pw_and1 (pt_not (pt_val (pe_callB (call_isX hz hf) (by rfl) zi (by decide +kernel) (pa_cons (pv 2) (pa_cons (pe_glob (v := .ref CT) (by rfl) XX.gT rfl) pa_nil)))))))) (pss_one (ps_set (i := 1) sc__law_told.nd rfl (.inl rfl) (by exact (pe_xf (E1.ErrC.xf EC) XX.noP hz hf (pv 2))))) pss_nil)))))
      (pss_one (ps_ret (pv 1)))), ?_⟩
  refine ⟨rfl, hc, ?_⟩
  refine h _ _ fun d part H1 hd q => ⟨true, XX.ex, fun _ a ha => ?_, fun z => nomatch z⟩
  refine ⟨_, rfl, CB, _, _, true, rfl, XX.XB, rfl, (fun u h => h), (fun dd e => by cases e; exact ⟨_, hd⟩), XX.kB, _, rfl, CB, _, _, false, rfl, XX.XB, rfl, (fun u h => h), (fun dd e => by cases e; exact ⟨_, hd⟩), XX.kW, _, rfl, CB, _, _, false, rfl, XX.XB, rfl, (fun u h => h), (fun dd e => by cases e; exact ⟨_, hd⟩), XX.kN, _, rfl, CB, _, _, false, rfl, XX.XB, rfl, (fun u h => h), (fun dd e => by cases e; exact ⟨_, hd⟩), XX.kU, (by show 4 ≤ sizeLine; decide), fun l2 hl2 => ?_⟩
  have s2 := same_new (o := .lst [.bl true, .bl false, .bl false, .bl false]) hl2
  refine ⟨_, rfl, (by show 4 ≤ sizeLine; decide), fun l3 hl3 => ?_⟩
  have s3 := same_new (o := .lst [.bl true, .bl false, .bl false, .bl false]) hl3
  refine ⟨.list [.bool true, .bool false, .bool false, .bool false], .list [.bool true, .bool false, .bool false, .bool false], .lst (SqL.of (s3 _ _ upd_same)) (.cons (.bl _) (.cons (.bl _) (.cons (.bl _) (.cons (.bl _) .nil)))), .lst (SqL.of upd_same) (.cons (.bl _) (.cons (.bl _) (.cons (.bl _) (.cons (.bl _) .nil)))), (by decide +kernel), (by decide +kernel), _, rfl, ?_⟩
  refine iteC (c := PyData.eqv (.list [.bool true, .bool false, .bool false, .bool false]) (.list [.bool true, .bool false, .bool false, .bool false])) (d := true) (SeqAt.eqv_refl _ (by decide +kernel)) (iteT ?_)
  refine ⟨_, rfl, CB, _, _, false, rfl, XX.XB, rfl, (fun u h => h), (fun dd e => by cases e; exact ⟨_, s3 _ _ (s2 _ _ hd)⟩), XX.kT, _, rfl, ?_⟩
  refine iteT ⟨_, rfl, rfl, rfl, d, _, _, rfl, s3 _ _ (s2 _ _ hd), rfl, ?_⟩
  exact ⟨_, rfl, q _ (s2.trans s3)⟩
end E1

namespace E1
open PySem PySem.Spec PyProof.Rows L2
theorem qt {p : Prop} [Decidable p] {Q : VK} {H : Hp} (h : p) (q : Q (.bl true) H) : Q (.bl (decide p)) H := (congrArg (fun c => Q (.bl c) H) (decide_eq_true h)).mpr q

abbrev lawQ : Str := (envOfC "law" (defScope s_law) 0 0 .none).qual ++ "<lambda>"
def spLaw (K : PySem.W.Frag) (Pt : Addr) : Sp := fun vs H Q _ => ∃ (a : Addr) (ns : List Int), vs = [.ref a] ∧ SqL K H a (ns.map V.int) ∧ ns.length ≤ 63 ∧ H Pt = some (.tbl #[]) ∧ ∀ H', Q (.bl true) H'
theorem manner7 {r : Int} (h0 : 0 ≤ r) (h1 : r < 7) : ∃ m : Mn, atI [V.str "down", V.str "up", V.str "in", V.str "out", V.str "half", V.str "even", V.str "far"] r = some (.str m.str) := by
  rcases (by omega : r = 0 ∨ r = 1 ∨ r = 2 ∨ r = 3 ∨ r = 4 ∨ r = 5 ∨ r = 6) with rfl | rfl | rfl | rfl | rfl | rfl | rfl
  · exact ⟨.down, rfl⟩
  · exact ⟨.up, rfl⟩
  · exact ⟨.inn, rfl⟩
  · exact ⟨.out, rfl⟩
  · exact ⟨.half, rfl⟩
  · exact ⟨.even, rfl⟩
  · exact ⟨.far, rfl⟩
/-- a part: good (true) or bad -/
def Sl (G : V → Prop) (B : Hp → V → Prop) (H : Hp) (x : V) (b : Bool) : Prop := (b = true ∧ G x) ∨ (b = false ∧ B H x)
def GW (x : V) : Prop := ∃ w, x = wV w ∧ WOk w
def GP (x : V) : Prop := ∃ n, x = .int n ∧ -64 ≤ n ∧ n ≤ 64
def GM (x : V) : Prop := ∃ m : Mn, x = .str m.str
def GE (x : V) : Prop := ∃ st, x = .str (endS st)
theorem sl_w {K : PySem.W.Frag} {H : Hp} {x : V} {b : Bool} (h : Sl GW BadW H x b) : WidthIs K H x b := by
  rcases h with ⟨rfl, w, rfl, hw⟩ | ⟨rfl, h⟩
  · exact .inl ⟨w, rfl, hw, rfl⟩
  · exact h.is
theorem sl_p {K : PySem.W.Frag} {H : Hp} {x : V} {b : Bool} (h : Sl GP BadP H x b) : PointIs K H x b := by
  rcases h with ⟨rfl, n, rfl, h1, h2⟩ | ⟨rfl, h⟩
  · exact .inl ⟨n, rfl, (decide_eq_true ⟨h1, h2⟩).symm⟩
  · exact h.is
theorem sl_m {K : PySem.W.Frag} {dM : Addr} {H : Hp} {x : V} {b : Bool} (h : Sl GM (BadM K dM) H x b) : MannerIs K H dM x b := by
  rcases h with ⟨rfl, m, rfl⟩ | ⟨rfl, h⟩
  · exact .inl ⟨m, rfl, rfl⟩
  · exact h.is
theorem sl_e {K : PySem.W.Frag} {H : Hp} {x : V} {b : Bool} (h : Sl GE BadE H x b) : EndsIs K H x b := by
  rcases h with ⟨rfl, st, rfl⟩ | ⟨rfl, h⟩
  · refine .inl ⟨_, rfl, ?_⟩
    cases st <;> decide +kernel
  · exact h.is
theorem Sl.keep {G : V → Prop} {B : Hp → V → Prop} {H H' : Hp} {x : V} {b : Bool} (h : Sl G B H x b) (k : B H x → B H' x) : Sl G B H' x b := h.imp id fun z => ⟨z.1, k z.2⟩
/-- the parts, those of S bad -/
def pick4 (good bad : Nat → V) (S : List Nat) : List V := [0, 1, 2, 3].map fun k => if k ∈ S then bad k else good k
theorem pick4_set {good bad : Nat → V} {S : List Nat} {k : Nat} (h : k < 4) : (pick4 good bad S).set k (bad k) = pick4 good bad (S ++ [k]) := by
  rcases (by omega : k = 0 ∨ k = 1 ∨ k = 2 ∨ k = 3) with rfl | rfl | rfl | rfl <;> simp [pick4, List.mem_append]
abbrev nats (S : List Nat) : List V := (S.map fun n : Nat => (n : Int)).map V.int
theorem bad_at {x0 x1 x2 x3 : V} {k : Nat} (h : k < 4) : atI [x0, x1, x2, x3] (k : Int) = some ((fun n : Nat => match n with | 0 => x0 | 1 => x1 | 2 => x2 | _ => x3) k) := by
  rcases (by omega : k = 0 ∨ k = 1 ∨ k = 2 ∨ k = 3) with rfl | rfl | rfl | rfl <;> rfl
theorem due_at {S : List Nat} (h4 : ∀ k ∈ S, k < 4) {m : Int} (hm : m ∈ S.map fun n : Nat => (n : Int)) (hl : ∀ y ∈ S.map (fun n : Nat => (n : Int)), m ≤ y) :
    atI [V.str "width", V.str "point", V.str "manner", V.str "ends"] m = some (.str (firstBad (!decide (0 ∈ S)) (!decide (1 ∈ S)) (!decide (2 ∈ S)))) ∧ ((!decide (0 ∈ S)) && (!decide (1 ∈ S)) && (!decide (2 ∈ S)) && (!decide (3 ∈ S))) = false := by
  obtain ⟨k, hk, rfl⟩ := List.mem_map.mp hm
  have lt : ∀ j, j < k → j ∉ S := fun j hj hs => by
    have := hl (j : Int) (List.mem_map.mpr ⟨j, hs, rfl⟩)
    omega
  have k4 := h4 k hk
  rcases (by omega : k = 0 ∨ k = 1 ∨ k = 2 ∨ k = 3) with rfl | rfl | rfl | rfl
  · exact ⟨by simp [firstBad, hk, atI, ixN], by simp [hk]⟩
  · exact ⟨by simp [firstBad, hk, lt 0 (by decide), atI, ixN], by simp [hk]⟩
  · exact ⟨by simp [firstBad, hk, lt 0 (by decide), lt 1 (by decide), atI, ixN], by simp [hk]⟩
  · exact ⟨by simp [firstBad, hk, lt 0 (by decide), lt 1 (by decide), lt 2 (by decide), atI, ixN], by simp [hk]⟩
theorem pick_sl {G : V → Prop} {B : Hp → V → Prop} {H : Hp} {g b : V} {S : List Nat} {k : Nat} (hg : G g) (hb : B H b) : Sl G B H (if k ∈ S then b else g) (!decide (k ∈ S)) := by
  by_cases h : k ∈ S
  · rw [if_pos h, decide_eq_true h]
    exact .inr ⟨rfl, hb⟩
  · rw [if_neg h, decide_eq_false h]
    exact .inl ⟨rfl, hg⟩
/-- all but the things at p and q stay -/
def But2 (p q : Addr) (H H' : Hp) : Prop := ∀ b o, b ≠ p → b ≠ q → H b = some o → H' b = some o
theorem But2.stays {p q : Addr} {H H' : Hp} {x : V} (h : But2 p q H H') (n1 : x ≠ .ref p) (n2 : x ≠ .ref q) : StaysV H H' x := fun b o e1 e2 _ => h b o (fun z => n1 (by rw [e1, z])) (fun z => n2 (by rw [e1, z])) e2

end E1

namespace E1
open PySem PySem.Spec PyProof.Rows L2
section
variable {P : Program} {w : World} {K : PySem.W.Frag} {mg : Str → Option Value} {base : Heap}
theorem sc_law : FnScope ["_law_script", "_law_well_here", "_law_first", "_law_second", "_law_manners", "_law_spoils", "_law_bad", "_law_spoiled", "_law_at", "_law_due", "_law_parts"] ["_law_script"] (defScope s_law) := ⟨rfl, rfl, rfl, by decide +kernel, rfl, by decide +kernel, by decide +kernel⟩
theorem ok_law {f : Addr} {fd : FuncData} {dM C CE CB CW CN CU CT c Pt gT : Addr} {fdT : FuncData} (F : FunC K "law" s_law f fd c) (z : Zs mg) (XX : Errs K mg CE CB CW CN CU CT) (EC : PySem.ErrX.ErrC K mg "BadForm" CB) (TB : LamX.TabB base mg c Pt) (FT : Fun K "_law_told" "_law_told" s__law_told gT fdT) (gm : mg "_law_told" = some (.ref gT)) (bT : Binds K fdT ["_law_deed"] []) (c__law_cell_at : Cal P w K mg base 1 "_law_cell_at" ["_law_script", "_law_k"] (spCell K)) (c__law_well : Cal P w K mg base 1 "_law_well" ["_law_cell"] spWell) (c__law_draw : Cal P w K mg base 1 "_law_draw" ["_law_well_here", "_law_many"] spDraw) (c__law_bad_width : Cal P w K mg base 2 "_law_bad_width" ["_law_well_here"] (spBad BadW)) (c__law_bad_point : Cal P w K mg base 2 "_law_bad_point" ["_law_well_here"] (spBad BadP)) (c__law_bad_manner : Cal P w K mg base 2 "_law_bad_manner" ["_law_well_here"] (spBad (BadM K dM))) (c__law_bad_ends : Cal P w K mg base 2 "_law_bad_ends" ["_law_well_here"] (spBad BadE)) (c_Form : CalCX P w K mg base 3 "Form" C ["self", "width", "point", "manner", "ends"] [] (spInitX K dM C CB)) (c_Form_k : CalCXK P w K mg base 3 "Form" C ["self", "width", "point", "manner", "ends"] 0 ["ends", "manner", "point", "width"] (fun vs zs => vs ++ zs.reverse) (spInitX K dM C CB)) : FnOk P w K mg base CX0 8 f fd ["_law_script"] (spLaw K Pt) := by
  obtain ⟨cdg, GT⟩ := got_of (Ng := ["_law_deed", "_law_found", "e", "_law_marks"]) FT gm bT sc__law_told rfl (.inl rfl)
  refine F.ok sc_law (fun vs H Q E h => ?_) (fun A outer s H vs Q E hr h => ?_)
  · obtain ⟨a, ns, rfl, _⟩ := h
    rfl
  · obtain ⟨as, ns, rfl, hS, hlen, hPt, q⟩ := h
    refine ⟨_, (pss_cons (ps_set (i := 1) sc_law.nd rfl (.inl rfl) (pe_cal c__law_well hr (pa_cons (pe_cal c__law_cell_at hr (pa_cons (pv 0) (pa_cons pe_int pa_nil))) pa_nil)))
      (pss_cons (ps_set (i := 2) sc_law.nd rfl (.inl rfl) (pe_cal c__law_draw hr (pa_cons (pv 1) (pa_cons pe_int pa_nil))))
      (pss_cons (ps_set (i := 3) sc_law.nd rfl (.inl rfl) (pe_cal c__law_draw hr (pa_cons (pv 1) (pa_cons pe_int pa_nil))))
      (pss_cons (ps_set (i := 4) sc_law.nd rfl (.inl rfl) (pe_lst (pa_cons pe_str (pa_cons pe_str (pa_cons pe_str (pa_cons pe_str (pa_cons pe_str (pa_cons pe_str (pa_cons pe_str pa_nil)))))))))
      (pss_cons (ps_set (i := 10) sc_law.nd rfl (.inr rfl) (pe_lst (pa_cons (pe_op op_add pe_int (pe_cal c__law_draw hr (pa_cons (pv 1) (pa_cons pe_int pa_nil)))) (pa_cons (pe_op op_sub (pe_cal c__law_draw hr (pa_cons (pv 1) (pa_cons pe_int pa_nil))) pe_int) (pa_cons (pe_ix ix_list (pv 4) (pe_cal c__law_draw hr (pa_cons (pv 1) (pa_cons pe_int pa_nil))) (fun _ _ => rfl)) (pa_cons pe_str pa_nil))))))
      (C8.pss_cut (ps_if (pt_cmpR op_eq (pe_cal c__law_draw hr (pa_cons (pv 1) (pa_cons pe_int pa_nil))) pe_int (nomark _)) (pss_one (ps_asg pe_str (pg_sub (pv 10) pe_int set_list))) pss_nil)
      (C8.pss_cut (ps_if (pt_cmpR op_eq (pe_cal c__law_draw hr (pa_cons (pv 1) (pa_cons pe_int pa_nil))) pe_int (nomark _)) (pss_one (ps_asg pe_non (pg_sub (pv 10) pe_int set_list))) pss_nil)
      (pss_cons (ps_set (i := 5) sc_law.nd rfl (.inl rfl) (pe_cal c__law_well hr (pa_cons (pe_cal c__law_cell_at hr (pa_cons (pv 0) (pa_cons pe_int pa_nil))) pa_nil)))
      (pss_cons (ps_set (i := 6) sc_law.nd rfl (.inl rfl) (pe_lst (pa_cons (pe_cal c__law_bad_width hr (pa_cons (pv 5) pa_nil)) (pa_cons (pe_cal c__law_bad_point hr (pa_cons (pv 5) pa_nil)) (pa_cons (pe_cal c__law_bad_manner hr (pa_cons (pv 5) pa_nil)) (pa_cons (pe_cal c__law_bad_ends hr (pa_cons (pv 5) pa_nil)) pa_nil))))))
      (pss_cons (ps_set (i := 7) sc_law.nd rfl (.inl rfl) (pe_lst (pa_cons (pv 2) pa_nil)))
      (C8.pss_cut (ps_if (pt_cmpR op_lt (pv 3) pe_int (nomark _)) (pss_one (ps_expr (pe_bm PySem.F.plainAttrs_list PySem.F.slot_list_append PySem.F.type_list_append mt_append (pv 7) (pa_cons (pv 3) pa_nil)))) pss_nil)
      (C8.pss_cut (ps_if (pt_cmpR op_eq (pv 3) pe_int (nomark _)) (pss_one (ps_expr (pe_bm PySem.F.plainAttrs_list PySem.F.slot_list_append PySem.F.type_list_append mt_append (pv 7) (pa_cons pe_int pa_nil)))) pss_nil)
      (pss_cons (ps_for PassesOwn.never rfl (pi_list (pv 7)) (pg_name (i := 8) sc_law.nd rfl (.inl rfl)) (pss_one (ps_asg (pe_ix ix_list (pv 6) (pv 8) (fun _ _ => rfl)) (pg_sub (pv 10) (pv 8) set_list))))
      (pss_cons (ps_set (i := 9) sc_law.nd rfl (.inl rfl) (pe_ix ix_list (pe_lst (pa_cons pe_str (pa_cons pe_str (pa_cons pe_str (pa_cons pe_str pa_nil))))) (pe_callB (cr_min rfl) (by rfl) z.min (by decide +kernel) (pa_cons (pv 7) pa_nil)) (fun _ _ => rfl)))
      (pss_cons (ps_if (pt_cmpR op_ne (pe_lamS (T := [(Pt, lawQ)]) (t := fun E => tMake C (spInitX K dM C CB) [] E (tCons (tOp (rIxL K) (tVar 10) (tC (.int 0))) (tCons (tOp (rIxL K) (tVar 10) (tC (.int 1))) (tCons (tOp (rIxL K) (tVar 10) (tC (.int 2))) (tCons (tOp (rIxL K) (tVar 10) (tC (.int 3))) tNil))))) (k := 5) (L := LamX.lamS_by (by show LamX.lamSB (defScope s_law) _ = true; decide +kernel)) GT (told_gives XX EC z.isinstance hr) TB hr (fun E A out s H fl cd rm => by exact (pe_calcX c_Form rm takesLam (pa_cons (pe_ix ix_list (pv 10) pe_int (fun _ _ => rfl)) (pa_cons (pe_ix ix_list (pv 10) pe_int (fun _ _ => rfl)) (pa_cons (pe_ix ix_list (pv 10) pe_int (fun _ _ => rfl)) (pa_cons (pe_ix ix_list (pv 10) pe_int (fun _ _ => rfl)) pa_nil))))))) (pv 9) (nomark _)) (pss_one (ps_ret pe_bl)) pss_nil)
      (pss_one (ps_ret (pe_cmpR op_eq (pe_lamS (T := [(Pt, lawQ)]) (t := fun E => tMakeN C 0 (["ends", "manner", "point", "width"] : List Str).length (spInitX K dM C CB) (fun vs zs => vs ++ zs.reverse) E tNil (tCons (tOp (rIxL K) (tVar 10) (tC (.int 3))) (tCons (tOp (rIxL K) (tVar 10) (tC (.int 2))) (tCons (tOp (rIxL K) (tVar 10) (tC (.int 1))) (tCons (tOp (rIxL K) (tVar 10) (tC (.int 0))) tNil))))) (k := 5) (L := LamX.lamS_by (by show LamX.lamSB (defScope s_law) _ = true; decide +kernel)) GT (told_gives XX EC z.isinstance hr) TB hr (fun E A out s H fl cd rm => by exact (pe_calcX0 c_Form_k rm takesLam (pk_cons (pe_ix ix_list (pv 10) pe_int (fun _ _ => rfl)) (pk_cons (pe_ix ix_list (pv 10) pe_int (fun _ _ => rfl)) (pk_cons (pe_ix ix_list (pv 10) pe_int (fun _ _ => rfl)) (pk_cons (pe_ix ix_list (pv 10) pe_int (fun _ _ => rfl)) pk_nil))))))) (pv 9) (nomark _))))))))))))))))))), ?_⟩
    refine ⟨_, rfl, as, ns, 0, rfl, hS, _, rfl, fun w1 hw1 H1 s1 k1 => ?_⟩
    refine ⟨_, rfl, w1, 0, 4, rfl, k1, by decide, by decide, by decide, fun r2 H2 r20 r21 d2 d2' w2 => ?_⟩
    refine ⟨_, rfl, w1, 0 + 1, 6, rfl, w2, by decide, by decide, by decide, fun r3 H3 r30 r31 d3 d3' w3 => ?_⟩
    refine ⟨(by show 7 ≤ sizeLine; decide), fun l4 hl4 => ?_⟩
    have q4 := same_new (o := .lst [V.str "down", V.str "up", V.str "in", V.str "out", V.str "half", V.str "even", V.str "far"]) hl4
    have w4 := w3.same q4
    have n4 : l4 ≠ w1 := w3.ne hl4
    refine ⟨_, rfl, w1, 0 + 1 + 1, 63, rfl, w4, by decide, by decide, by decide, fun r5 H5 r50 r51 d5 d5' w5 => ⟨_, _, rfl, rfl, _, rfl, w1, 0 + 1 + 1 + 1, 129, rfl, w5, by decide, by decide, by decide, fun r6 H6 r60 r61 d6 d6' w6 => ⟨_, _, rfl, rfl, _, rfl, _, rfl, w1, 0 + 1 + 1 + 1 + 1, 7, rfl, w6, by decide, by decide, by decide, fun r7 H7 r70 r71 d7 d7' w7 => ?_⟩⟩⟩
    obtain ⟨m, hm⟩ := manner7 r70 r71
    have D7 : SameBut w1 _ H7 := (d5.trans d6).trans d7
    refine ⟨l4, _, r7, _, rfl, rfl, SqL.of (D7 _ _ n4 upd_same), hm, (by show 4 ≤ sizeLine; decide), fun lp hlp => ?_⟩
    have S7 : Same H H7 := same_but s1 ((d2.trans d3).trans ((SameBut.of q4).trans D7)) hw1
    have np : lp ≠ w1 := w7.ne hlp
    have hlp0 : H lp = none := S7.free hlp
    have W8 := (w7.same (same_new (o := .lst [.int (2 + r5), .int (r6 - 64), .str m.str, .str "wrap"]) hlp)).mono (show _ ≤ (50 : Int) by decide)
    have S8 : Same H _ := S7.trans (same_new (o := .lst [.int (2 + r5), .int (r6 - 64), .str m.str, .str "wrap"]) hlp)
    refine ⟨fun σ H' => ∃ st : Bool, σ = [some (.ref as), some (.ref w1), some (.int r2), some (.int r3), some (.ref l4), none, none, none, none, none, some (.ref lp)] ∧ Same H H' ∧ WellAt H' w1 60 ∧ H' lp = some (.lst [.int (2 + r5), .int (r6 - 64), .str m.str, .str (endS st)]), ?_, fun σ H8 hM => ?_⟩
    · refine ⟨_, rfl, w1, 50, 2, rfl, W8, by decide, by decide, by decide, fun r8 H8 r80 r81 d8 d8' w8 => ⟨rfl, _, rfl, ite2 (fun _ => ?_) (fun _ => ?_)⟩⟩
      · refine ⟨_, rfl, lp, _, 3, 3, rfl, rfl, d8 _ _ np upd_same, rfl, ?_⟩
        have w9 := w8
        obtain ⟨x, y, z', hx, hr9⟩ := w9
        exact ⟨true, rfl, fun b o e => by rw [upd_ne (fun z => by rw [z, hlp0] at e; cases e)]; exact same_but s1 (((d2.trans d3).trans ((SameBut.of q4).trans D7)).trans ((SameBut.of (same_new hlp)).trans d8)) hw1 b o e, (show WellAt _ w1 60 from ⟨x, y, z', by rw [upd_ne np.symm]; exact hx, by omega⟩), upd_same⟩
      · exact ⟨false, rfl, same_but s1 (((d2.trans d3).trans ((SameBut.of q4).trans D7)).trans ((SameBut.of (same_new hlp)).trans d8)) hw1, w8.mono (by decide), d8 _ _ np upd_same⟩
    obtain ⟨st, rfl, S9, W9, hlp9⟩ := hM
    refine ⟨fun σ H' => ∃ wd : Option Int, σ = [some (.ref as), some (.ref w1), some (.int r2), some (.int r3), some (.ref l4), none, none, none, none, none, some (.ref lp)] ∧ WOk wd ∧ Same H H' ∧ H' lp = some (.lst [wV wd, .int (r6 - 64), .str m.str, .str (endS st)]), ?_, fun σ H9 hM => ?_⟩
    · refine ⟨_, rfl, w1, 60, 4, rfl, W9, by decide, by decide, by decide, fun r9 H9 r90 r91 d9 d9' w9 => ⟨rfl, _, rfl, ite2 (fun _ => ?_) (fun _ => ?_)⟩⟩
      · refine ⟨_, rfl, lp, _, 0, 0, rfl, rfl, d9 _ _ np hlp9, rfl, ?_⟩
        exact ⟨none, rfl, (fun _ z => by cases z), fun b o e => by rw [upd_ne (fun z => by rw [z, hlp0] at e; cases e)]; exact d9 b o (fun z => by rw [z, hw1] at e; cases e) (S9 b o e), upd_same⟩
      · exact ⟨some (2 + r5), rfl, (fun x z => by cases z; omega), fun b o e => d9 b o (fun z => by rw [z, hw1] at e; cases e) (S9 b o e), d9 _ _ np hlp9⟩
    obtain ⟨wd, rfl, hwd, S10, hlp2⟩ := hM
    clear hlp9 S9 W9 W8 S8 w7 d7 d6 d5 w6 w5 w4 D7 S7 hlp
    refine ⟨_, rfl, as, ns, 1, rfl, S10.seq hS, _, rfl, fun w5 hw5 H11 s11 k11 => ?_⟩
    refine ⟨_, rfl, w5, 0, rfl, k11, by decide, fun x0 G0 sb0 wl0 bad0 fr0 => ⟨_, rfl, w5, _, rfl, wl0, by decide, fun x1 G1 sb1 wl1 bad1 fr1 => ⟨_, rfl, w5, _, rfl, wl1, by decide, fun x2 G2 sb2 wl2 bad2 fr2 => ⟨_, rfl, w5, _, rfl, wl2, by decide, fun x3 G3 sb3 wl3 bad3 fr3 => ⟨(by show 4 ≤ sizeLine; decide), fun lb hlb => ?_⟩⟩⟩⟩⟩
    have F0 : ∀ p, x0 = .ref p → H9 p = none := fun p e => s11.free (fr0 p e)
    have F1 : ∀ p, x1 = .ref p → H9 p = none := fun p e => s11.free (sb0.free wl0 (fr1 p e))
    have F2 : ∀ p, x2 = .ref p → H9 p = none := fun p e => s11.free (sb0.free wl0 (sb1.free wl1 (fr2 p e)))
    have F3 : ∀ p, x3 = .ref p → H9 p = none := fun p e => s11.free (sb0.free wl0 (sb1.free wl1 (sb2.free wl2 (fr3 p e))))
    have V0 : x0 ≠ .ref w5 := fun e => k11.ne (fr0 _ e) rfl
    have V1 : x1 ≠ .ref w5 := fun e => wl0.ne (fr1 _ e) rfl
    have V2 : x2 ≠ .ref w5 := fun e => wl1.ne (fr2 _ e) rfl
    have qb := same_new (o := .lst [x0, x1, x2, x3]) hlb
    have B0 : BadW (upd G3 lb (.lst [x0, x1, x2, x3])) x0 := bad0.keep ((StaysV.but ((sb1.trans sb2).trans sb3) V0).trans (.of qb))
    have B1 : BadP (upd G3 lb (.lst [x0, x1, x2, x3])) x1 := bad1.keep ((StaysV.but (sb2.trans sb3) V1).trans (.of qb))
    have B2 : BadM K dM (upd G3 lb (.lst [x0, x1, x2, x3])) x2 := bad2.keep ((StaysV.but sb3 V2).trans (.of qb))
    have B3 : BadE (upd G3 lb (.lst [x0, x1, x2, x3])) x3 := bad3.keep (.of qb)
    have S12 : Same H9 (upd G3 lb (.lst [x0, x1, x2, x3])) := (same_but s11 (((sb0.trans sb1).trans sb2).trans sb3) hw5).trans qb
    have L0 : ∀ {x : V}, (∀ p, x = .ref p → H9 p = none) → x ≠ .ref lp := fun h e => by rw [h _ e] at hlp2; cases hlp2
    have hlb2 : (upd G3 lb (.lst [x0, x1, x2, x3])) lb = some (.lst [x0, x1, x2, x3]) := upd_same
    have nbp : lb ≠ lp := fun e => by
      have := (same_but s11 (((sb0.trans sb1).trans sb2).trans sb3) hw5) _ _ hlp2
      rw [← e, hlb] at this
      cases this
    have hlp3 := S12 _ _ hlp2
    have hPt3 := S12 _ _ (S10 _ _ hPt)
    generalize hG : upd G3 lb (.lst [x0, x1, x2, x3]) = G at *
    have K0 : ∃ o, G3 lb = none ∧ G = upd G3 lb o := ⟨_, hlb, hG.symm⟩
    have X0 : ∀ {p : Addr}, x0 = .ref p → ∃ o, G p = some o := fun {p} e => by
      rcases B0 with ⟨n, rfl, _⟩ | ⟨b, rfl⟩ | ⟨t, kk, _⟩
      · cases e
      · cases e
      · exact kk.there e
    have X1 : ∀ {p : Addr}, x1 = .ref p → ∃ o, G p = some o := fun {p} e => by
      rcases B1 with ⟨n, rfl, _⟩ | ⟨b, rfl⟩ | ⟨t, kk, _⟩
      · cases e
      · cases e
      · exact kk.there e
    have X2 : ∀ {p : Addr}, x2 = .ref p → ∃ o, G p = some o := fun {p} e => by
      rcases B2 with ⟨n, rfl, _⟩ | ⟨t, kk, _⟩
      · cases e
      · exact kk.there e
    have X3 : ∀ {p : Addr}, x3 = .ref p → ∃ o, G p = some o := fun {p} e => by
      rcases B3 with ⟨n, rfl, _⟩ | ⟨t, kk, _⟩
      · cases e
      · exact kk.there e
    have M0 := L0 F0
    have M1 := L0 F1
    have M2 := L0 F2
    have M3 := L0 F3
    clear sb0 sb1 sb2 sb3 wl0 wl1 wl2 wl3 bad0 bad1 bad2 bad3 fr0 fr1 fr2 fr3 F0 F1 F2 F3 V0 V1 V2 L0 K0 qb hG hlb s11 k11 S12
    refine ⟨_, rfl, (by show 1 ≤ sizeLine; decide), fun l7 hl7 => ?_⟩
    have R7 : ∀ {x : V}, (∀ {p : Addr}, x = .ref p → ∃ o, G p = some o) → x ≠ .ref l7 := fun h e => by
      obtain ⟨o, ho⟩ := h e
      rw [ho] at hl7
      cases hl7
    have n7p : l7 ≠ lp := fun e => by rw [e, hlp3] at hl7; cases hl7
    have n7b : l7 ≠ lb := fun e => by rw [e, hlb2] at hl7; cases hl7
    have n7t : l7 ≠ Pt := fun e => by rw [e, hPt3] at hl7; cases hl7
    have npt : lp ≠ Pt := fun e => by rw [e, hPt3] at hlp3; cases hlp3
    refine ⟨fun σ H' => ∃ S : List Nat, σ = [some (.ref as), some (.ref w1), some (.int r2), some (.int r3), some (.ref l4), some (.ref w5), some (.ref lb), some (.ref l7), none, none, some (.ref lp)] ∧ S ≠ [] ∧ S.length ≤ 2 ∧ (∀ k ∈ S, k < 4) ∧ But2 lp l7 G H' ∧ H' l7 = some (.lst (nats S)) ∧ H' lp = some (.lst [wV wd, .int (r6 - 64), .str m.str, .str (endS st)]), ?_, fun σ H13 hM => ?_⟩
    · refine ⟨_, rfl, _, _, rfl, rfl, _, rfl, ite2 (fun c => ?_) (fun _ => ?_)⟩
      · have c3 : r3 < 4 := toB c
        refine ⟨_, rfl, .inl ⟨rfl, _, SqL.of upd_same⟩, _, rfl, l7, _, _, rfl, rfl, upd_same, (by show 1 < sizeLine; decide), ⟨[r2.toNat, r3.toNat], rfl, by simp, by simp, fun k hk => ?_, fun b o n1 n2 e => ?_, ?_, ?_⟩⟩
        · simp only [List.mem_cons, List.not_mem_nil, or_false] at hk
          rcases hk with rfl | rfl <;> omega
        · rw [upd_ne n2, upd_ne n2]
          exact e
        · rw [upd_same]
          show some (HO.lst [V.int r2, V.int r3]) = some (HO.lst [V.int (r2.toNat : Int), V.int (r3.toNat : Int)])
          rw [Int.toNat_of_nonneg r20, Int.toNat_of_nonneg r30]
        · rw [upd_ne n7p.symm, upd_ne n7p.symm]
          exact hlp3
      · refine ⟨[r2.toNat], rfl, by simp, by simp, fun k hk => ?_, fun b o n1 n2 e => ?_, ?_, ?_⟩
        · simp only [List.mem_cons, List.not_mem_nil, or_false] at hk
          omega
        · rw [upd_ne n2]
          exact e
        · rw [upd_same]
          show some (HO.lst [V.int r2]) = some (HO.lst [V.int (r2.toNat : Int)])
          rw [Int.toNat_of_nonneg r20]
        · rw [upd_ne n7p.symm]
          exact hlp3
    obtain ⟨S, rfl, hS0, hS1, hS4, b13, hl13, hp13⟩ := hM
    refine ⟨fun σ H' => ∃ S : List Nat, σ = [some (.ref as), some (.ref w1), some (.int r2), some (.int r3), some (.ref l4), some (.ref w5), some (.ref lb), some (.ref l7), none, none, some (.ref lp)] ∧ S ≠ [] ∧ S.length ≤ 3 ∧ (∀ k ∈ S, k < 4) ∧ But2 lp l7 G H' ∧ H' l7 = some (.lst (nats S)) ∧ H' lp = some (.lst [wV wd, .int (r6 - 64), .str m.str, .str (endS st)]), ?_, fun σ H14 hM => ?_⟩
    · refine ⟨_, rfl, rfl, _, rfl, ite2 (fun _ => ?_) (fun _ => ?_)⟩
      · refine ⟨_, rfl, .inl ⟨rfl, _, SqL.of hl13⟩, l7, _, _, rfl, rfl, hl13, (by simp; exact Nat.lt_of_le_of_lt hS1 (by decide)), ⟨S ++ [3], rfl, by simp, by simp; omega, fun k hk => ?_, fun b o n1 n2 e => ?_, ?_, ?_⟩⟩
        · rcases List.mem_append.mp hk with hk | hk
          · exact hS4 k hk
          · simp at hk
            omega
        · rw [upd_ne n2]
          exact b13 b o n1 n2 e
        · rw [upd_same]
          simp [nats]
        · rw [upd_ne n7p.symm]
          exact hp13
      · exact ⟨S, rfl, hS0, by omega, hS4, b13, hl13, hp13⟩
    clear hS0 hS1 hS4 b13 hl13 hp13 S
    obtain ⟨S, rfl, hS0, hS1, hS4, b14, hl14, hp14⟩ := hM
    obtain ⟨good, hgood⟩ : ∃ good : Nat → V, good = fun n : Nat => match n with | 0 => wV wd | 1 => .int (r6 - 64) | 2 => .str m.str | _ => .str (endS st) := ⟨_, rfl⟩
    obtain ⟨bad, hbad⟩ : ∃ bad : Nat → V, bad = fun n : Nat => match n with | 0 => x0 | 1 => x1 | 2 => x2 | _ => x3 := ⟨_, rfl⟩
    refine ⟨_, rfl, l7, rfl, ⟨_, SqL.of hl14⟩, for_list (xs := nats S) (fun i σ H' => ∃ y : Option V, σ = [some (.ref as), some (.ref w1), some (.int r2), some (.int r3), some (.ref l4), some (.ref w5), some (.ref lb), some (.ref l7), y, none, some (.ref lp)] ∧ But2 lp l7 G H' ∧ H' l7 = some (.lst (nats S)) ∧ H' lp = some (.lst (pick4 good bad (S.take i)))) ⟨none, rfl, b14, hl14, ?_⟩ (fun i σ H' _ hP => ?_) (fun i x σ H' hx hP => ?_) (fun σ H15 hP => ?_)⟩
    · rw [hp14, hgood]
      rfl
    · obtain ⟨y, rfl, _, h7, _⟩ := hP
      exact SqL.of h7
    · obtain ⟨y, rfl, b15, h7, hp⟩ := hP
      obtain ⟨k, hk, rfl⟩ : ∃ k : Nat, S[i]? = some k ∧ x = .int (k : Int) := by
        rw [List.getElem?_map, List.getElem?_map] at hx
        cases hs : S[i]? with
        | none => rw [hs] at hx; cases hx
        | some k => rw [hs] at hx; exact ⟨k, rfl, (Option.some.inj hx).symm⟩
      have k4 := hS4 k (List.mem_of_getElem? hk)
      refine ⟨_, rfl, _, rfl, lb, _, k, bad k, rfl, rfl, SqL.of (b15 _ _ nbp n7b.symm hlb2), by rw [hbad]; exact bad_at k4, ?_⟩
      refine ⟨_, rfl, _, rfl, lp, _, k, k, rfl, rfl, hp, ?_, ⟨_, rfl, fun b o n1 n2 e => ?_, ?_, ?_⟩⟩
      · show ixN 4 (k : Int) = some k
        clear hk
        rcases (by omega : k = 0 ∨ k = 1 ∨ k = 2 ∨ k = 3) with rfl | rfl | rfl | rfl <;> rfl
      · rw [upd_ne n1]
        exact b15 b o n1 n2 e
      · rw [upd_ne n7p]
        exact h7
      · rw [upd_same, pick4_set k4, List.take_add_one, hk]
        rfl
    obtain ⟨y, rfl, b15, h7, hp⟩ := hP
    rw [show (nats S).length = S.length by simp [nats], List.take_length] at hp
    refine ⟨(by show 4 ≤ sizeLine; decide), fun l9 hl9 => ⟨_, rfl, l7, S.map (fun n : Nat => (n : Int)), rfl, SqL.of (same_new hl9 _ _ h7), (by rw [List.length_map]; exact List.length_pos_iff.mpr hS0), fun mm hmm hle => ?_⟩⟩
    obtain ⟨hdue, hfb⟩ := due_at hS4 hmm hle
    refine ⟨l9, _, mm, _, rfl, rfl, SqL.of upd_same, hdue, ?_⟩
    have q9 := same_new (o := .lst [V.str "width", V.str "point", V.str "manner", V.str "ends"]) hl9
    have hPt9 := q9 _ _ (b15 _ _ npt.symm n7t.symm hPt3)
    have hp9 := q9 _ _ hp
    have st0 : ∀ {x : V}, x ≠ .ref lp → (∀ {p : Addr}, x = .ref p → ∃ o, G p = some o) → StaysV G _ x := fun n1 h => (b15.stays n1 (R7 h)).trans (.of q9)
    have sl : ∀ {H' : Hp}, LamX.ExtN (upd H15 l9 (.lst [V.str "width", V.str "point", V.str "manner", V.str "ends"])) H' → Sl GW BadW H' (if 0 ∈ S then x0 else wV wd) (!decide (0 ∈ S)) ∧ Sl GP BadP H' (if 1 ∈ S then x1 else .int (r6 - 64)) (!decide (1 ∈ S)) ∧ Sl GM (BadM K dM) H' (if 2 ∈ S then x2 else .str m.str) (!decide (2 ∈ S)) ∧ Sl GE BadE H' (if 3 ∈ S then x3 else .str (endS st)) (!decide (3 ∈ S)) := fun {H'} en =>
      ⟨pick_sl ⟨wd, rfl, hwd⟩ (B0.keep ((st0 M0 X0).trans (.ext en))), pick_sl ⟨_, rfl, by omega, by omega⟩ (B1.keep ((st0 M1 X1).trans (.ext en))), pick_sl ⟨m, rfl⟩ (B2.keep ((st0 M2 X2).trans (.ext en))), pick_sl ⟨st, rfl⟩ (B3.keep ((st0 M3 X3).trans (.ext en)))⟩
    have hp9' : (upd H15 l9 (.lst [V.str "width", V.str "point", V.str "manner", V.str "ends"])) lp = some (.lst [if 0 ∈ S then x0 else wV wd, if 1 ∈ S then x1 else .int (r6 - 64), if 2 ∈ S then x2 else .str m.str, if 3 ∈ S then x3 else .str (endS st)]) := by
      rw [hp9, hgood, hbad]
      rfl
    have a3 : ∀ {x y z' u : V}, atI [x, y, z', u] 3 = some u := atI_nat (j := 3) rfl
    have T9 : LamX.Tabs [(Pt, lawQ)] (upd H15 l9 (.lst [V.str "width", V.str "point", V.str "manner", V.str "ends"])) := fun p hp => by
      simp only [List.mem_cons, List.not_mem_nil, or_false] at hp
      subst hp
      exact .nil hPt9
    generalize upd H15 l9 (.lst [V.str "width", V.str "point", V.str "manner", V.str "ends"]) = G9 at *
    refine ⟨T9, fun H10 en T10 => fun E1' Q1 hE => ?_⟩
    have hpA := en _ _ hp9' (fun _ z => by cases z)
    refine ⟨_, rfl, lp, _, 0, _, rfl, rfl, SqL.of hpA, a0, _, rfl, lp, _, 1, _, rfl, rfl, SqL.of hpA, a1, _, rfl, lp, _, 2, _, rfl, rfl, SqL.of hpA, a2, _, rfl, lp, _, 3, _, rfl, rfl, SqL.of hpA, a3, fun x dx hx hdx nx => ?_⟩
    have sx : Same H10 (upd (upd H10 dx (.own x)) x (.ins C dx [])) := fun b o e => by
      rw [upd_ne (ne_of_none e hx), upd_ne (ne_of_none e hdx)]
      exact e
    obtain ⟨h1, h2, h3, h4⟩ := sl (en.trans (.of sx))
    refine ⟨x, dx, _, _, _, _, _, _, _, _, rfl, upd_same, sl_w h1, sl_p h2, sl_m h3, sl_e h4, hfb, fun d hd => hE d _ _ upd_same fun H11 s11 => ?_⟩
    refine ⟨_, rfl, rfl, _, rfl, ?_⟩
    refine iteC (d := false) (by rw [decide_eq_true rfl]; rfl) (iteF ?_)
    have S11 : Same H10 H11 := (sx.trans (same_new hd)).trans s11
    have en2 := en.trans (.of S11)
    refine ⟨T10.ext S11, fun H12 en3 T12 => fun E2 Q2 hE2 => ?_⟩
    have en4 := en2.trans en3
    have hpB := en4 _ _ hp9' (fun _ z => by cases z)
    refine ⟨_, rfl, lp, _, 3, _, rfl, rfl, SqL.of hpB, a3, _, rfl, lp, _, 2, _, rfl, rfl, SqL.of hpB, a2, _, rfl, lp, _, 1, _, rfl, rfl, SqL.of hpB, a1, _, rfl, lp, _, 0, _, rfl, rfl, SqL.of hpB, a0, rfl, rfl, fun x dx hx hdx nx => ?_⟩
    have sx : Same H12 (upd (upd H12 dx (.own x)) x (.ins C dx [])) := fun b o e => by
      rw [upd_ne (ne_of_none e hx), upd_ne (ne_of_none e hdx)]
      exact e
    obtain ⟨h1, h2, h3, h4⟩ := sl (en4.trans (.of sx))
    refine ⟨x, dx, _, _, _, _, _, _, _, _, rfl, upd_same, sl_w h1, sl_p h2, sl_m h3, sl_e h4, hfb, fun d hd => hE2 d _ _ upd_same fun H13 s13 => ?_⟩
    refine ⟨_, rfl, rfl, ?_⟩
    exact qt (Q := Q) rfl (q _)

end
end E1

namespace E1
open PySem PySem.Spec PyProof.Rows L2

abbrev s_BadForm___init__ : Stmt := inClass (topS 4) 0
theorem bad_ini {P : Program} {w : World} {K : PySem.W.Frag} {mg : Str → Option Value} {C fI cc : Addr} (EC : PySem.ErrX.ErrC K mg "BadForm" C) (IC : PySem.ErrX.IniC P K mg C fI cc "BadForm.__init__" "part" s_BadForm___init__ .none) : PySem.ErrX.IniOk P w K mg C fI "part" := by
  refine ⟨IC.iC, IC.tC, fun A R s x t0 v MO hx hnx hroom fv hq => ?_⟩
  refine PySem.ErrX.err_init EC IC ⟨by decide +kernel, by decide +kernel, by decide +kernel, by decide +kernel, by decide +kernel⟩ rfl rfl ?_ ?_ rfl rfl MO hx hnx hroom fv ?_ hq
  · intro e he
    simp only [List.mem_cons, List.not_mem_nil, or_false] at he
    rcases he with rfl | rfl | rfl
    · exact .c (by decide)
    · exact .f
    · exact .c (by decide)
  · decide
  · intro kV doc pm an cda ct
    exact .of_eq rfl

end E1

namespace E1
open PySem PySem.Spec PyProof.Rows L2

theorem Vals.rev : ∀ {xs : List V} {us : List Value}, Vals xs us → Vals xs.reverse us.reverse
  | _, _, .nil => .nil
  | _, _, .cons r t => by
    rw [List.reverse_cons, List.reverse_cons]
    exact Vals.append (Vals.rev t) (.cons r .nil)
section
variable {P : Program} {w : World} {K : PySem.W.Frag} {mg : Str → Option Value} {base : Heap} {x : Str} {st : Stmt} {f : Addr} {fd : FuncData} {ps ks : List Str} {k n : Nat} {sp : Sp}
/-- a def without defaults: its arguments by keywords alone or behind others -/
theorem Fun.kbn {qual : Str} (F : Fun K x qual st f fd) {g : List Value → List Value → List Value} {gV : List V → List V → List V} (hrel : ∀ {vs : List V} {us : List Value} {zs : List V} {ws : List Value}, Vals vs us → Vals zs ws → Vals (gV vs zs) (g us ws))
    (h : ∀ (kV doc pm : Value) (an : Option Addr) (cdv ct : Value) (us ws : List Value), us.length = n → ws.length = ks.length → bindArgs (PySem.W.fnOf x qual (defArgs st) (defBody st) (defScope st) .none kV doc pm an cdv ct) ⟨us, ks.zip ws⟩ = pure (ps.zip (g us ws))) : KBn K fd ps n ks g gV := by
  obtain ⟨oc, od, kV, doc, pm, an, cdv, ct, osl, rfl, lk, hcd⟩ := F.ex
  exact ⟨fun s us ws _ h1 h2 => .of_eq (h kV doc pm an cdv ct us ws h1 h2), hrel⟩
/-- a def with defaults, all arguments given -/
theorem FunD.kbn {qual : Str} {params : Arguments} {body : List Stmt} {scope : Scope} {dvs : List V} {kws : List (Str × V)} (F : FunD K x qual params body scope dvs kws f fd) (hd : dvs ≠ []) {g : List Value → List Value → List Value} {gV : List V → List V → List V} (hrel : ∀ {vs : List V} {us : List Value} {zs : List V} {ws : List Value}, Vals vs us → Vals zs ws → Vals (gV vs zs) (g us ws))
    (h : ∀ (T : Addr) (kV doc pm : Value) (an : Option Addr) (cdv ct : Value) (us ws its : List Value), us.length = n → ws.length = ks.length → its.length = dvs.length → ∃ k, bindArgs (PySem.W.fnOf x qual params body scope (.ref T) kV doc pm an cdv ct) ⟨us, ks.zip ws⟩ = seqItems? (.ref T) >>= k ∧ k (some its.toArray) = pure (ps.zip (g us ws))) : KBn K fd ps n ks g gV := by
  obtain ⟨oc, od, dV, kV, doc, pm, an, cdv, ct, osl, rfl, lk, hcd, hD, hK⟩ := F.ex
  rcases hD with ⟨e, _⟩ | ⟨_, T, o, its, m, rfl, lT, oT, rT⟩
  · exact absurd e hd
  · refine ⟨fun s us ws X h1 h2 => ?_, hrel⟩
    obtain ⟨k, e1, e2⟩ := h T kV doc pm an cdv ct us ws its h1 h2 rT.length.symm
    refine BindsTo.of_looks fun M => ?_
    rw [e1]
    exact looks_items X lT oT (.of_pure e2)
end
theorem all_mk {l : PySem.W.OpenLaw} {w : World} {K : PySem.W.Frag} {h : Heap} {mg : Str → Option Value} {fa : Addr} {f_is_whole f_downward f_upward f_inward f_outward f_nearest_greater f_nearest_even f_nearest_far f_is_manner f_is_width f_is_point f_is_ends f__law_cell_at f__law_well f__law_draw f__law_bad_width f__law_bad_point f__law_bad_manner f__law_bad_ends f__law_told f_law cLaw Pt C f_Form___init__ T_Form___init__ A_ENDS A_MANNERS CE CW CN CU CT CB fI_CB cc_CB cda_CB : Addr} (X : K.In h) (G : h.Ns mainGlobals mg) (hfa : mg "law" = some (.ref fa))
    {od_is_whole an_is_whole : Option Addr} {sl_is_whole : Array (Option Value)} {oc_is_whole kV_is_whole dc_is_whole pm_is_whole cd_is_whole ct_is_whole : Value}
    (a_is_whole : PySem.W.nsIn K mainGlobals "is_whole" = some (some (.ref f_is_whole)))
    (l_is_whole : K.lookup f_is_whole = some ⟨oc_is_whole, od_is_whole, .func (PySem.W.fnOf "is_whole" "is_whole" (defArgs s_is_whole) (defBody s_is_whole) (defScope s_is_whole) .none kV_is_whole dc_is_whole pm_is_whole an_is_whole cd_is_whole ct_is_whole), sl_is_whole⟩)
    (c_is_whole : PySem.W.codeIn K cd_is_whole "is_whole" = true)
    (k_is_whole : PySem.W.keepIn K (.ref f_is_whole) = true)
    {od_downward an_downward : Option Addr} {sl_downward : Array (Option Value)} {oc_downward kV_downward dc_downward pm_downward cd_downward ct_downward : Value}
    (a_downward : PySem.W.nsIn K mainGlobals "downward" = some (some (.ref f_downward)))
    (l_downward : K.lookup f_downward = some ⟨oc_downward, od_downward, .func (PySem.W.fnOf "downward" "downward" (defArgs s_downward) (defBody s_downward) (defScope s_downward) .none kV_downward dc_downward pm_downward an_downward cd_downward ct_downward), sl_downward⟩)
    (c_downward : PySem.W.codeIn K cd_downward "downward" = true)
    (k_downward : PySem.W.keepIn K (.ref f_downward) = true)
    {od_upward an_upward : Option Addr} {sl_upward : Array (Option Value)} {oc_upward kV_upward dc_upward pm_upward cd_upward ct_upward : Value}
    (a_upward : PySem.W.nsIn K mainGlobals "upward" = some (some (.ref f_upward)))
    (l_upward : K.lookup f_upward = some ⟨oc_upward, od_upward, .func (PySem.W.fnOf "upward" "upward" (defArgs s_upward) (defBody s_upward) (defScope s_upward) .none kV_upward dc_upward pm_upward an_upward cd_upward ct_upward), sl_upward⟩)
    (c_upward : PySem.W.codeIn K cd_upward "upward" = true)
    (k_upward : PySem.W.keepIn K (.ref f_upward) = true)
    {od_inward an_inward : Option Addr} {sl_inward : Array (Option Value)} {oc_inward kV_inward dc_inward pm_inward cd_inward ct_inward : Value}
    (a_inward : PySem.W.nsIn K mainGlobals "inward" = some (some (.ref f_inward)))
    (l_inward : K.lookup f_inward = some ⟨oc_inward, od_inward, .func (PySem.W.fnOf "inward" "inward" (defArgs s_inward) (defBody s_inward) (defScope s_inward) .none kV_inward dc_inward pm_inward an_inward cd_inward ct_inward), sl_inward⟩)
    (c_inward : PySem.W.codeIn K cd_inward "inward" = true)
    (k_inward : PySem.W.keepIn K (.ref f_inward) = true)
    {od_outward an_outward : Option Addr} {sl_outward : Array (Option Value)} {oc_outward kV_outward dc_outward pm_outward cd_outward ct_outward : Value}
    (a_outward : PySem.W.nsIn K mainGlobals "outward" = some (some (.ref f_outward)))
    (l_outward : K.lookup f_outward = some ⟨oc_outward, od_outward, .func (PySem.W.fnOf "outward" "outward" (defArgs s_outward) (defBody s_outward) (defScope s_outward) .none kV_outward dc_outward pm_outward an_outward cd_outward ct_outward), sl_outward⟩)
    (c_outward : PySem.W.codeIn K cd_outward "outward" = true)
    (k_outward : PySem.W.keepIn K (.ref f_outward) = true)
    {od_nearest_greater an_nearest_greater : Option Addr} {sl_nearest_greater : Array (Option Value)} {oc_nearest_greater kV_nearest_greater dc_nearest_greater pm_nearest_greater cd_nearest_greater ct_nearest_greater : Value}
    (a_nearest_greater : PySem.W.nsIn K mainGlobals "nearest_greater" = some (some (.ref f_nearest_greater)))
    (l_nearest_greater : K.lookup f_nearest_greater = some ⟨oc_nearest_greater, od_nearest_greater, .func (PySem.W.fnOf "nearest_greater" "nearest_greater" (defArgs s_nearest_greater) (defBody s_nearest_greater) (defScope s_nearest_greater) .none kV_nearest_greater dc_nearest_greater pm_nearest_greater an_nearest_greater cd_nearest_greater ct_nearest_greater), sl_nearest_greater⟩)
    (c_nearest_greater : PySem.W.codeIn K cd_nearest_greater "nearest_greater" = true)
    (k_nearest_greater : PySem.W.keepIn K (.ref f_nearest_greater) = true)
    {od_nearest_even an_nearest_even : Option Addr} {sl_nearest_even : Array (Option Value)} {oc_nearest_even kV_nearest_even dc_nearest_even pm_nearest_even cd_nearest_even ct_nearest_even : Value}
    (a_nearest_even : PySem.W.nsIn K mainGlobals "nearest_even" = some (some (.ref f_nearest_even)))
    (l_nearest_even : K.lookup f_nearest_even = some ⟨oc_nearest_even, od_nearest_even, .func (PySem.W.fnOf "nearest_even" "nearest_even" (defArgs s_nearest_even) (defBody s_nearest_even) (defScope s_nearest_even) .none kV_nearest_even dc_nearest_even pm_nearest_even an_nearest_even cd_nearest_even ct_nearest_even), sl_nearest_even⟩)
    (c_nearest_even : PySem.W.codeIn K cd_nearest_even "nearest_even" = true)
    (k_nearest_even : PySem.W.keepIn K (.ref f_nearest_even) = true)
    {od_nearest_far an_nearest_far : Option Addr} {sl_nearest_far : Array (Option Value)} {oc_nearest_far kV_nearest_far dc_nearest_far pm_nearest_far cd_nearest_far ct_nearest_far : Value}
    (a_nearest_far : PySem.W.nsIn K mainGlobals "nearest_far" = some (some (.ref f_nearest_far)))
    (l_nearest_far : K.lookup f_nearest_far = some ⟨oc_nearest_far, od_nearest_far, .func (PySem.W.fnOf "nearest_far" "nearest_far" (defArgs s_nearest_far) (defBody s_nearest_far) (defScope s_nearest_far) .none kV_nearest_far dc_nearest_far pm_nearest_far an_nearest_far cd_nearest_far ct_nearest_far), sl_nearest_far⟩)
    (c_nearest_far : PySem.W.codeIn K cd_nearest_far "nearest_far" = true)
    (k_nearest_far : PySem.W.keepIn K (.ref f_nearest_far) = true)
    {od_is_manner an_is_manner : Option Addr} {sl_is_manner : Array (Option Value)} {oc_is_manner kV_is_manner dc_is_manner pm_is_manner cd_is_manner ct_is_manner : Value}
    (a_is_manner : PySem.W.nsIn K mainGlobals "is_manner" = some (some (.ref f_is_manner)))
    (l_is_manner : K.lookup f_is_manner = some ⟨oc_is_manner, od_is_manner, .func (PySem.W.fnOf "is_manner" "is_manner" (defArgs s_is_manner) (defBody s_is_manner) (defScope s_is_manner) .none kV_is_manner dc_is_manner pm_is_manner an_is_manner cd_is_manner ct_is_manner), sl_is_manner⟩)
    (c_is_manner : PySem.W.codeIn K cd_is_manner "is_manner" = true)
    (k_is_manner : PySem.W.keepIn K (.ref f_is_manner) = true)
    {od_is_width an_is_width : Option Addr} {sl_is_width : Array (Option Value)} {oc_is_width kV_is_width dc_is_width pm_is_width cd_is_width ct_is_width : Value}
    (a_is_width : PySem.W.nsIn K mainGlobals "is_width" = some (some (.ref f_is_width)))
    (l_is_width : K.lookup f_is_width = some ⟨oc_is_width, od_is_width, .func (PySem.W.fnOf "is_width" "is_width" (defArgs s_is_width) (defBody s_is_width) (defScope s_is_width) .none kV_is_width dc_is_width pm_is_width an_is_width cd_is_width ct_is_width), sl_is_width⟩)
    (c_is_width : PySem.W.codeIn K cd_is_width "is_width" = true)
    (k_is_width : PySem.W.keepIn K (.ref f_is_width) = true)
    {od_is_point an_is_point : Option Addr} {sl_is_point : Array (Option Value)} {oc_is_point kV_is_point dc_is_point pm_is_point cd_is_point ct_is_point : Value}
    (a_is_point : PySem.W.nsIn K mainGlobals "is_point" = some (some (.ref f_is_point)))
    (l_is_point : K.lookup f_is_point = some ⟨oc_is_point, od_is_point, .func (PySem.W.fnOf "is_point" "is_point" (defArgs s_is_point) (defBody s_is_point) (defScope s_is_point) .none kV_is_point dc_is_point pm_is_point an_is_point cd_is_point ct_is_point), sl_is_point⟩)
    (c_is_point : PySem.W.codeIn K cd_is_point "is_point" = true)
    (k_is_point : PySem.W.keepIn K (.ref f_is_point) = true)
    {od_is_ends an_is_ends : Option Addr} {sl_is_ends : Array (Option Value)} {oc_is_ends kV_is_ends dc_is_ends pm_is_ends cd_is_ends ct_is_ends : Value}
    (a_is_ends : PySem.W.nsIn K mainGlobals "is_ends" = some (some (.ref f_is_ends)))
    (l_is_ends : K.lookup f_is_ends = some ⟨oc_is_ends, od_is_ends, .func (PySem.W.fnOf "is_ends" "is_ends" (defArgs s_is_ends) (defBody s_is_ends) (defScope s_is_ends) .none kV_is_ends dc_is_ends pm_is_ends an_is_ends cd_is_ends ct_is_ends), sl_is_ends⟩)
    (c_is_ends : PySem.W.codeIn K cd_is_ends "is_ends" = true)
    (k_is_ends : PySem.W.keepIn K (.ref f_is_ends) = true)
    {od__law_cell_at an__law_cell_at : Option Addr} {sl__law_cell_at : Array (Option Value)} {oc__law_cell_at kV__law_cell_at dc__law_cell_at pm__law_cell_at cd__law_cell_at ct__law_cell_at : Value}
    (a__law_cell_at : PySem.W.nsIn K mainGlobals "_law_cell_at" = some (some (.ref f__law_cell_at)))
    (l__law_cell_at : K.lookup f__law_cell_at = some ⟨oc__law_cell_at, od__law_cell_at, .func (PySem.W.fnOf "_law_cell_at" "_law_cell_at" (defArgs s__law_cell_at) (defBody s__law_cell_at) (defScope s__law_cell_at) .none kV__law_cell_at dc__law_cell_at pm__law_cell_at an__law_cell_at cd__law_cell_at ct__law_cell_at), sl__law_cell_at⟩)
    (c__law_cell_at : PySem.W.codeIn K cd__law_cell_at "_law_cell_at" = true)
    (k__law_cell_at : PySem.W.keepIn K (.ref f__law_cell_at) = true)
    {od__law_well an__law_well : Option Addr} {sl__law_well : Array (Option Value)} {oc__law_well kV__law_well dc__law_well pm__law_well cd__law_well ct__law_well : Value}
    (a__law_well : PySem.W.nsIn K mainGlobals "_law_well" = some (some (.ref f__law_well)))
    (l__law_well : K.lookup f__law_well = some ⟨oc__law_well, od__law_well, .func (PySem.W.fnOf "_law_well" "_law_well" (defArgs s__law_well) (defBody s__law_well) (defScope s__law_well) .none kV__law_well dc__law_well pm__law_well an__law_well cd__law_well ct__law_well), sl__law_well⟩)
    (c__law_well : PySem.W.codeIn K cd__law_well "_law_well" = true)
    (k__law_well : PySem.W.keepIn K (.ref f__law_well) = true)
    {od__law_draw an__law_draw : Option Addr} {sl__law_draw : Array (Option Value)} {oc__law_draw kV__law_draw dc__law_draw pm__law_draw cd__law_draw ct__law_draw : Value}
    (a__law_draw : PySem.W.nsIn K mainGlobals "_law_draw" = some (some (.ref f__law_draw)))
    (l__law_draw : K.lookup f__law_draw = some ⟨oc__law_draw, od__law_draw, .func (PySem.W.fnOf "_law_draw" "_law_draw" (defArgs s__law_draw) (defBody s__law_draw) (defScope s__law_draw) .none kV__law_draw dc__law_draw pm__law_draw an__law_draw cd__law_draw ct__law_draw), sl__law_draw⟩)
    (c__law_draw : PySem.W.codeIn K cd__law_draw "_law_draw" = true)
    (k__law_draw : PySem.W.keepIn K (.ref f__law_draw) = true)
    {od__law_bad_width an__law_bad_width : Option Addr} {sl__law_bad_width : Array (Option Value)} {oc__law_bad_width kV__law_bad_width dc__law_bad_width pm__law_bad_width cd__law_bad_width ct__law_bad_width : Value}
    (a__law_bad_width : PySem.W.nsIn K mainGlobals "_law_bad_width" = some (some (.ref f__law_bad_width)))
    (l__law_bad_width : K.lookup f__law_bad_width = some ⟨oc__law_bad_width, od__law_bad_width, .func (PySem.W.fnOf "_law_bad_width" "_law_bad_width" (defArgs s__law_bad_width) (defBody s__law_bad_width) (defScope s__law_bad_width) .none kV__law_bad_width dc__law_bad_width pm__law_bad_width an__law_bad_width cd__law_bad_width ct__law_bad_width), sl__law_bad_width⟩)
    (c__law_bad_width : PySem.W.codeIn K cd__law_bad_width "_law_bad_width" = true)
    (k__law_bad_width : PySem.W.keepIn K (.ref f__law_bad_width) = true)
    {od__law_bad_point an__law_bad_point : Option Addr} {sl__law_bad_point : Array (Option Value)} {oc__law_bad_point kV__law_bad_point dc__law_bad_point pm__law_bad_point cd__law_bad_point ct__law_bad_point : Value}
    (a__law_bad_point : PySem.W.nsIn K mainGlobals "_law_bad_point" = some (some (.ref f__law_bad_point)))
    (l__law_bad_point : K.lookup f__law_bad_point = some ⟨oc__law_bad_point, od__law_bad_point, .func (PySem.W.fnOf "_law_bad_point" "_law_bad_point" (defArgs s__law_bad_point) (defBody s__law_bad_point) (defScope s__law_bad_point) .none kV__law_bad_point dc__law_bad_point pm__law_bad_point an__law_bad_point cd__law_bad_point ct__law_bad_point), sl__law_bad_point⟩)
    (c__law_bad_point : PySem.W.codeIn K cd__law_bad_point "_law_bad_point" = true)
    (k__law_bad_point : PySem.W.keepIn K (.ref f__law_bad_point) = true)
    {od__law_bad_manner an__law_bad_manner : Option Addr} {sl__law_bad_manner : Array (Option Value)} {oc__law_bad_manner kV__law_bad_manner dc__law_bad_manner pm__law_bad_manner cd__law_bad_manner ct__law_bad_manner : Value}
    (a__law_bad_manner : PySem.W.nsIn K mainGlobals "_law_bad_manner" = some (some (.ref f__law_bad_manner)))
    (l__law_bad_manner : K.lookup f__law_bad_manner = some ⟨oc__law_bad_manner, od__law_bad_manner, .func (PySem.W.fnOf "_law_bad_manner" "_law_bad_manner" (defArgs s__law_bad_manner) (defBody s__law_bad_manner) (defScope s__law_bad_manner) .none kV__law_bad_manner dc__law_bad_manner pm__law_bad_manner an__law_bad_manner cd__law_bad_manner ct__law_bad_manner), sl__law_bad_manner⟩)
    (c__law_bad_manner : PySem.W.codeIn K cd__law_bad_manner "_law_bad_manner" = true)
    (k__law_bad_manner : PySem.W.keepIn K (.ref f__law_bad_manner) = true)
    {od__law_bad_ends an__law_bad_ends : Option Addr} {sl__law_bad_ends : Array (Option Value)} {oc__law_bad_ends kV__law_bad_ends dc__law_bad_ends pm__law_bad_ends cd__law_bad_ends ct__law_bad_ends : Value}
    (a__law_bad_ends : PySem.W.nsIn K mainGlobals "_law_bad_ends" = some (some (.ref f__law_bad_ends)))
    (l__law_bad_ends : K.lookup f__law_bad_ends = some ⟨oc__law_bad_ends, od__law_bad_ends, .func (PySem.W.fnOf "_law_bad_ends" "_law_bad_ends" (defArgs s__law_bad_ends) (defBody s__law_bad_ends) (defScope s__law_bad_ends) .none kV__law_bad_ends dc__law_bad_ends pm__law_bad_ends an__law_bad_ends cd__law_bad_ends ct__law_bad_ends), sl__law_bad_ends⟩)
    (c__law_bad_ends : PySem.W.codeIn K cd__law_bad_ends "_law_bad_ends" = true)
    (k__law_bad_ends : PySem.W.keepIn K (.ref f__law_bad_ends) = true)
    {od__law_told an__law_told : Option Addr} {sl__law_told : Array (Option Value)} {oc__law_told kV__law_told dc__law_told pm__law_told cd__law_told ct__law_told : Value}
    (a__law_told : PySem.W.nsIn K mainGlobals "_law_told" = some (some (.ref f__law_told)))
    (l__law_told : K.lookup f__law_told = some ⟨oc__law_told, od__law_told, .func (PySem.W.fnOf "_law_told" "_law_told" (defArgs s__law_told) (defBody s__law_told) (defScope s__law_told) .none kV__law_told dc__law_told pm__law_told an__law_told cd__law_told ct__law_told), sl__law_told⟩)
    (c__law_told : PySem.W.codeIn K cd__law_told "_law_told" = true)
    (k__law_told : PySem.W.keepIn K (.ref f__law_told) = true)
    {od_law an_law cdd_law : Option Addr} {sl_law ccs_law : Array (Option Value)} {oc_law kV_law dc_law pm_law ct_law ccl_law : Value} {vs_law : Array Value}
    (a_law : PySem.W.nsIn K mainGlobals "law" = some (some (.ref f_law)))
    (l_law : K.lookup f_law = some ⟨oc_law, od_law, .func (PySem.W.fnOf "law" "law" (defArgs s_law) (defBody s_law) (defScope s_law) .none kV_law dc_law pm_law an_law (.ref cLaw) ct_law), sl_law⟩)
    (c_law : PySem.W.codeIn K (.ref cLaw) "law" = true)
    (k_law : PySem.W.keepIn K (.ref f_law) = true)
    (lc_law : K.lookup cLaw = some ⟨ccl_law, cdd_law, .fields vs_law, ccs_law⟩)
    (v11_law : vs_law[11]? = some (.ref Pt))
    (hd_law : PySem.W.codeHdIn K cLaw Pt = true)
    (nT_law : K.lookup Pt = none)
    (hT_law : h.get? Pt = some { cls := .none, data := .fields #[] })
    (aC_C : PySem.W.nsIn K mainGlobals "Form" = some (some (.ref C)))
    (pg_C : PySem.W.plainGet K C Str.empty = true)
    (hd_C : PySem.W.hasDictIn K C = true)
    (po_C : PySem.W.plainOver K C = true)
    (sa_C : PySem.W.findIn K (.ref C) "__setattr__" = some (some (.builtin "object.__setattr__")))
    (mk_C : PySem.W.makesIn K C = true)
    (kc_C : PySem.W.keepIn K (.ref C) = true)
    {od_Form___init__ an_Form___init__ : Option Addr} {sl_Form___init__ : Array (Option Value)} {oc_Form___init__ kV_Form___init__ dc_Form___init__ pm_Form___init__ cd_Form___init__ ct_Form___init__ : Value}
    {to_Form___init__ : Value} {td_Form___init__ : Option Addr} {tn_Form___init__ : Nat} {ts_Form___init__ : Array (Option Value)} {tk_Form___init___1 : Tok} {tk_Form___init___2 : Tok} {tk_Form___init___3 : Tok}
    (a_Form___init__ : PySem.W.findIn K (.ref C) "__init__" = some (some (.ref f_Form___init__)))
    (i_Form___init__ : PySem.W.isFn K (.ref f_Form___init__) = true)
    (l_Form___init__ : K.lookup f_Form___init__ = some ⟨oc_Form___init__, od_Form___init__, .func (PySem.W.fnOf "__init__" "Form.__init__" (defArgs s_Form___init__) (defBody s_Form___init__) (defScope s_Form___init__) (.ref T_Form___init__) kV_Form___init__ dc_Form___init__ pm_Form___init__ an_Form___init__ cd_Form___init__ ct_Form___init__), sl_Form___init__⟩)
    (c_Form___init__ : PySem.W.codeIn K cd_Form___init__ "Form.__init__" = true)
    (k_Form___init__ : PySem.W.keepIn K (.ref f_Form___init__) = true)
    (t_Form___init__ : K.lookup T_Form___init__ = some ⟨to_Form___init__, td_Form___init__, .seq [Value.none, Value.int 0 tk_Form___init___1, Value.str "half" tk_Form___init___2, Value.str "wrap" tk_Form___init___3].toArray tn_Form___init__, ts_Form___init__⟩)
    {tk_LEAST_WIDTH : Tok}
    (g_LEAST_WIDTH : PySem.W.nsIn K mainGlobals "LEAST_WIDTH" = some (some (.int 2 tk_LEAST_WIDTH)))
    {tk_GREATEST_WIDTH : Tok}
    (g_GREATEST_WIDTH : PySem.W.nsIn K mainGlobals "GREATEST_WIDTH" = some (some (.int 64 tk_GREATEST_WIDTH)))
    {tk_GREATEST_POINT : Tok}
    (g_GREATEST_POINT : PySem.W.nsIn K mainGlobals "GREATEST_POINT" = some (some (.int 64 tk_GREATEST_POINT)))
    {tt_ENDS : Option Addr} {tn_ENDS : Nat} {ts_ENDS : Array (Option Value)} {tk_ENDS_0 : Tok} {tk_ENDS_1 : Tok}
    (g_ENDS : PySem.W.nsIn K mainGlobals "ENDS" = some (some (.ref A_ENDS)))
    (t_ENDS : K.lookup A_ENDS = some ⟨.type "tuple", tt_ENDS, .seq [Value.str "wrap" tk_ENDS_0, Value.str "stop" tk_ENDS_1].toArray tn_ENDS, ts_ENDS⟩)
    {es_MANNERS : Array DictEntry} {dn_MANNERS : Nat}
    (g_MANNERS : PySem.W.nsIn K mainGlobals "MANNERS" = some (some (.ref A_MANNERS)))
    (t_MANNERS : K.lookup A_MANNERS = some ⟨.type "dict", none, .dict es_MANNERS dn_MANNERS, #[]⟩)
    (y_MANNERS : PySem.W.KeysLit w.params es_MANNERS.toList)
    (w_MANNERS : (A_MANNERS == sysModules) = false)
    (d_MANNERS_down : PySem.W.nsIn K A_MANNERS "down" = some (some (.ref f_downward)))
    (d_MANNERS_up : PySem.W.nsIn K A_MANNERS "up" = some (some (.ref f_upward)))
    (d_MANNERS_in : PySem.W.nsIn K A_MANNERS "in" = some (some (.ref f_inward)))
    (d_MANNERS_out : PySem.W.nsIn K A_MANNERS "out" = some (some (.ref f_outward)))
    (d_MANNERS_half : PySem.W.nsIn K A_MANNERS "half" = some (some (.ref f_nearest_greater)))
    (d_MANNERS_even : PySem.W.nsIn K A_MANNERS "even" = some (some (.ref f_nearest_even)))
    (d_MANNERS_far : PySem.W.nsIn K A_MANNERS "far" = some (some (.ref f_nearest_far)))
    (bd_0 : PySem.W.nsIn K A_MANNERS "" = some none)
    (bd_1 : PySem.W.nsIn K A_MANNERS "Half" = some none)
    (bd_2 : PySem.W.nsIn K A_MANNERS "half " = some none)
    (bd_3 : PySem.W.nsIn K A_MANNERS "near" = some none)
    (bd_4 : PySem.W.nsIn K A_MANNERS "wrap" = some none)
    (bd_5 : PySem.W.nsIn K A_MANNERS "stop" = some none)
    (bd_6 : PySem.W.nsIn K A_MANNERS "halfeven" = some none)
    (aC_CE : PySem.W.nsIn K mainGlobals "EchoError" = some (some (.ref CE)))
    (aC_CW : PySem.W.nsIn K mainGlobals "BadNet" = some (some (.ref CW)))
    (aC_CN : PySem.W.nsIn K mainGlobals "NoFraction" = some (some (.ref CN)))
    (aC_CU : PySem.W.nsIn K mainGlobals "Unfit" = some (some (.ref CU)))
    (aC_CT : PySem.W.nsIn K mainGlobals "NoText" = some (some (.ref CT)))
    (aC_CB : PySem.W.nsIn K mainGlobals "BadForm" = some (some (.ref CB)))
    (ei_CB : PySem.W.excInitIn K CB PySem.ErrX.bmA "ArithmeticError.__new__" = true)
    (eo_CB : PySem.W.excOver K CB PySem.ErrX.bmA = true)
    (sa_CB : PySem.W.findIn K (.ref CB) "__setattr__" = some (some (.builtin "object.__setattr__")))
    (ga_CB : PySem.W.findIn K (.ref CB) "__getattribute__" = some (some (.builtin "BaseException.__getattribute__")))
    (gg_CB : PySem.W.findIn K (.ref CB) "__getattr__" = some none)
    (kC_CB : PySem.W.keepIn K (.ref CB) = true)
    (ex_CB : PySem.W.subIn K (.ref CB) (.type "BaseException") = some true)
    (ty_CB : PySem.W.typeIn K (.ref CB) = some (.type "type"))
    (hd_CB : PySem.W.hasDictIn K CB = true)
    (ha_CB : PySem.W.findIn K (.ref CB) "__class__" = some (some (.builtin "object.__class__")))
    (hn_CB : PySem.W.specialIn K (.builtin "object.__class__") "__get__" = some (some (.builtin "getset_descriptor.__get__")))
    (ht_CB : PySem.W.takesIn K (.builtin "object.__class__") = some true)
    (hm_CB : PySem.W.mroIn K CB (.type "object") = some true)
    (iC_CB : PySem.W.findIn K (.ref CB) "__init__" = some (some (.ref fI_CB)))
    (tC_CB : PySem.W.typeIn K (.ref fI_CB) = some (.type "function"))
    {od_CB an_CB cdd_CB cld_CB : Option Addr} {sl_CB ccs_CB csl_CB : Array (Option Value)} {oc_CB kV_CB dc_CB pm_CB ct_CB ccl_CB cl_CB : Value} {vs_CB : Array Value} {file_CB : Str} {tf_CB : Tok}
    (l_CB : K.lookup fI_CB = some ⟨oc_CB, od_CB, .func (PySem.W.ksFn "__init__" "BadForm.__init__" (defArgs s_BadForm___init__) (defBody s_BadForm___init__) (defScope s_BadForm___init__) .none kV_CB dc_CB pm_CB an_CB (.ref cda_CB) ct_CB cc_CB), sl_CB⟩)
    (cd_CB : PySem.W.codeIn K (.ref cda_CB) "BadForm.__init__" = true)
    (lc_CB : K.lookup cda_CB = some ⟨ccl_CB, cdd_CB, .fields vs_CB, ccs_CB⟩)
    (v2_CB : vs_CB[2]? = some (.str file_CB tf_CB))
    (fl_CB : ((l.prog.main.file : Str) == file_CB) = true)
    (ce_CB : K.lookup cc_CB = some ⟨cl_CB, cld_CB, .cell (some (.ref CB)), csl_CB⟩)
    (nf_CB : PySem.W.findIn K (.ref CB) "part" = some none)
    (su_CB : PySem.W.ks_superIn K CB CB "__init__" = some (some (.builtin "ArithmeticError.__init__")))
    (sA_CB : PySem.W.subIn K (.ref CB) (.type "ArithmeticError") = some true)
    (sf_CB : PySem.W.mroIn K CB (.ref CB) = some true)
    (th_CB : PySem.W.nsIn K cStatics "thirdparty.any" = some none)
    (ms_CB : PySem.W.nsIn K mainGlobals "super" = some none)
    (tp_CB : (l.prog.main.scope.names.lookup ("super" : Str)).isSome = false)
    (xm : PySem.W.exmOne K (.ref CB) (.ref CE) = some true)
    (ki_B : PySem.W.kitOne K (.ref CB) (.ref CB) = some true)
    (ki_W : PySem.W.kitOne K (.ref CB) (.ref CW) = some false)
    (ki_N : PySem.W.kitOne K (.ref CB) (.ref CN) = some false)
    (ki_U : PySem.W.kitOne K (.ref CB) (.ref CU) = some false)
    (ki_T : PySem.W.kitOne K (.ref CB) (.ref CT) = some false)
    (z_isinstance : PySem.W.nsIn K mainGlobals "isinstance" = some none)
    (z_int : PySem.W.nsIn K mainGlobals "int" = some none)
    (z_bool : PySem.W.nsIn K mainGlobals "bool" = some none)
    (z_str : PySem.W.nsIn K mainGlobals "str" = some none)
    (z_abs : PySem.W.nsIn K mainGlobals "abs" = some none)
    (z_len : PySem.W.nsIn K mainGlobals "len" = some none)
    (z_min : PySem.W.nsIn K mainGlobals "min" = some none) :
    LamX.LawAtS l w K CX0 8 63 "_law_script" mg fa h := by
  have F_is_whole := fun_mk (st := s_is_whole) l_is_whole c_is_whole k_is_whole
  have b_is_whole := F_is_whole.binds (ps := ["thing"]) fun _ _ _ _ _ _ us hl => match us, hl with | [_], _ => rfl
  have F_downward := fun_mk (st := s_downward) l_downward c_downward k_downward
  have b_downward := F_downward.binds (ps := ["top", "bottom"]) fun _ _ _ _ _ _ us hl => match us, hl with | [_, _], _ => rfl
  have F_upward := fun_mk (st := s_upward) l_upward c_upward k_upward
  have b_upward := F_upward.binds (ps := ["top", "bottom"]) fun _ _ _ _ _ _ us hl => match us, hl with | [_, _], _ => rfl
  have F_inward := fun_mk (st := s_inward) l_inward c_inward k_inward
  have b_inward := F_inward.binds (ps := ["top", "bottom"]) fun _ _ _ _ _ _ us hl => match us, hl with | [_, _], _ => rfl
  have F_outward := fun_mk (st := s_outward) l_outward c_outward k_outward
  have b_outward := F_outward.binds (ps := ["top", "bottom"]) fun _ _ _ _ _ _ us hl => match us, hl with | [_, _], _ => rfl
  have F_nearest_greater := fun_mk (st := s_nearest_greater) l_nearest_greater c_nearest_greater k_nearest_greater
  have b_nearest_greater := F_nearest_greater.binds (ps := ["top", "bottom"]) fun _ _ _ _ _ _ us hl => match us, hl with | [_, _], _ => rfl
  have F_nearest_even := fun_mk (st := s_nearest_even) l_nearest_even c_nearest_even k_nearest_even
  have b_nearest_even := F_nearest_even.binds (ps := ["top", "bottom"]) fun _ _ _ _ _ _ us hl => match us, hl with | [_, _], _ => rfl
  have F_nearest_far := fun_mk (st := s_nearest_far) l_nearest_far c_nearest_far k_nearest_far
  have b_nearest_far := F_nearest_far.binds (ps := ["top", "bottom"]) fun _ _ _ _ _ _ us hl => match us, hl with | [_, _], _ => rfl
  have F_is_manner := fun_mk (st := s_is_manner) l_is_manner c_is_manner k_is_manner
  have b_is_manner := F_is_manner.binds (ps := ["thing"]) fun _ _ _ _ _ _ us hl => match us, hl with | [_], _ => rfl
  have F_is_width := fun_mk (st := s_is_width) l_is_width c_is_width k_is_width
  have b_is_width := F_is_width.binds (ps := ["thing"]) fun _ _ _ _ _ _ us hl => match us, hl with | [_], _ => rfl
  have F_is_point := fun_mk (st := s_is_point) l_is_point c_is_point k_is_point
  have b_is_point := F_is_point.binds (ps := ["thing"]) fun _ _ _ _ _ _ us hl => match us, hl with | [_], _ => rfl
  have F_is_ends := fun_mk (st := s_is_ends) l_is_ends c_is_ends k_is_ends
  have b_is_ends := F_is_ends.binds (ps := ["thing"]) fun _ _ _ _ _ _ us hl => match us, hl with | [_], _ => rfl
  have F__law_cell_at := fun_mk (st := s__law_cell_at) l__law_cell_at c__law_cell_at k__law_cell_at
  have b__law_cell_at := F__law_cell_at.binds (ps := ["_law_script", "_law_k"]) fun _ _ _ _ _ _ us hl => match us, hl with | [_, _], _ => rfl
  have F__law_well := fun_mk (st := s__law_well) l__law_well c__law_well k__law_well
  have b__law_well := F__law_well.binds (ps := ["_law_cell"]) fun _ _ _ _ _ _ us hl => match us, hl with | [_], _ => rfl
  have F__law_draw := fun_mk (st := s__law_draw) l__law_draw c__law_draw k__law_draw
  have b__law_draw := F__law_draw.binds (ps := ["_law_well_here", "_law_many"]) fun _ _ _ _ _ _ us hl => match us, hl with | [_, _], _ => rfl
  have F__law_bad_width := fun_mk (st := s__law_bad_width) l__law_bad_width c__law_bad_width k__law_bad_width
  have b__law_bad_width := F__law_bad_width.binds (ps := ["_law_well_here"]) fun _ _ _ _ _ _ us hl => match us, hl with | [_], _ => rfl
  have F__law_bad_point := fun_mk (st := s__law_bad_point) l__law_bad_point c__law_bad_point k__law_bad_point
  have b__law_bad_point := F__law_bad_point.binds (ps := ["_law_well_here"]) fun _ _ _ _ _ _ us hl => match us, hl with | [_], _ => rfl
  have F__law_bad_manner := fun_mk (st := s__law_bad_manner) l__law_bad_manner c__law_bad_manner k__law_bad_manner
  have b__law_bad_manner := F__law_bad_manner.binds (ps := ["_law_well_here"]) fun _ _ _ _ _ _ us hl => match us, hl with | [_], _ => rfl
  have F__law_bad_ends := fun_mk (st := s__law_bad_ends) l__law_bad_ends c__law_bad_ends k__law_bad_ends
  have b__law_bad_ends := F__law_bad_ends.binds (ps := ["_law_well_here"]) fun _ _ _ _ _ _ us hl => match us, hl with | [_], _ => rfl
  have F__law_told := fun_mk (st := s__law_told) l__law_told c__law_told k__law_told
  have b__law_told := F__law_told.binds (ps := ["_law_deed"]) fun _ _ _ _ _ _ us hl => match us, hl with | [_], _ => rfl
  have F_law : FunC K "law" s_law f_law (PySem.W.fnOf "law" "law" (defArgs s_law) (defBody s_law) (defScope s_law) .none kV_law dc_law pm_law an_law (.ref cLaw) ct_law) cLaw := ⟨_, _, _, _, _, _, _, _, rfl, l_law, c_law⟩
  have F_Form___init__ : FunD K "__init__" "Form.__init__" (defArgs s_Form___init__) (defBody s_Form___init__) (defScope s_Form___init__) [V.non, V.int 0, V.str "half", V.str "wrap"] [] f_Form___init__ _ := ⟨⟨_, _, _, _, _, _, _, _, _, _, rfl, l_Form___init__, c_Form___init__, .inr ⟨by simp, T_Form___init__, _, [Value.none, Value.int 0 tk_Form___init___1, Value.str "half" tk_Form___init___2, Value.str "wrap" tk_Form___init___3], _, rfl, t_Form___init__, rfl, (.cons rfl (.cons ⟨_, rfl⟩ (.cons ⟨_, rfl⟩ (.cons ⟨_, rfl⟩ .nil))))⟩, .inl rfl⟩, k_Form___init__⟩
  obtain ⟨ds_Form4, dv_Form4, b_Form4⟩ := F_Form___init__.binds1 (ps := ["self", "width", "point", "manner", "ends"]) 5 4 (by simp) rfl fun _ _ _ _ _ _ _ us its h1 h2 => match us, its, h1, h2 with | [_, _, _, _, _], [_, _, _, _], _, _ => ⟨_, rfl, rfl⟩
  cases dv_Form4
  have kbf := FunD.kbn (n := 1) (ks := ["ends", "manner", "point", "width"]) (ps := ["self", "width", "point", "manner", "ends"]) F_Form___init__ (by simp) (g := fun us ws => us ++ ws.reverse) (gV := fun vs zs => vs ++ zs.reverse) (fun r s => Vals.append r (Vals.rev s)) fun _ _ _ _ _ _ _ us ws its h1 h2 h3 => match us, ws, its, h1, h2, h3 with | [_], [_, _, _, _], [_, _, _, _], _, _, _ => ⟨_, rfl, rfl⟩
  have T_ENDS : ∀ H, SqT K H A_ENDS [V.str "wrap", V.str "stop"] := fun H => .inr ⟨_, _, _, t_ENDS, rfl, rfl, (by show 2 ≤ sizeLine; decide), (.cons ⟨_, rfl⟩ (.cons ⟨_, rfl⟩ .nil))⟩
  have EC_CB : PySem.ErrX.ErrC K mg "BadForm" CB := ⟨PySem.W.mg_of X G aC_CB, ei_CB, eo_CB, sa_CB, ga_CB, gg_CB, kC_CB, ex_CB, ty_CB, hd_CB⟩
  have IC_CB : PySem.ErrX.IniC l.prog K mg CB fI_CB cc_CB "BadForm.__init__" "part" s_BadForm___init__ .none := ⟨iC_CB, tC_CB, ⟨_, _, _, _, _, _, _, _, _, l_CB, cd_CB, _, _, _, _, _, _, lc_CB, v2_CB, fl_CB⟩, ⟨_, _, _, ce_CB⟩, nf_CB, su_CB, sA_CB, sf_CB, th_CB, PySem.W.mg_none_of X G ms_CB, tp_CB⟩
  have XC_CB : ExcC K CB := ⟨ga_CB, gg_CB, ex_CB, hd_CB, ha_CB, hn_CB, ht_CB, hm_CB⟩
  have z : Zs mg := ⟨PySem.W.mg_none_of X G z_isinstance, PySem.W.mg_none_of X G z_int, PySem.W.mg_none_of X G z_bool, PySem.W.mg_none_of X G z_str, PySem.W.mg_none_of X G z_abs, PySem.W.mg_none_of X G z_len, PySem.W.mg_none_of X G z_min⟩
  have e := hfa.symm.trans (PySem.W.mg_of X G a_law)
  cases e
  have one : ∀ {p : Addr × Addr}, p ∈ [(cLaw, Pt)] → p = (cLaw, Pt) := fun h => List.mem_singleton.mp h
  refine ⟨PySem.W.fnOf "law" "law" (defArgs s_law) (defBody s_law) (defScope s_law) .none kV_law dc_law pm_law an_law (.ref cLaw) ct_law, [(cLaw, Pt)], spLaw K Pt, fun p hp => by rw [one hp]; exact hT_law, fun p hp => by rw [one hp]; exact nT_law, fun p hp => by rw [one hp]; exact PySem.W.codeHd_of_K X hd_law, fun s v => .of_eq rfl, fun H a ns hl _ hH hS => ⟨a, ns, rfl, hS, hl, hH _ List.mem_cons_self, fun _ => rfl⟩, fun base _ _ TBs => ?_⟩
  have TB := TBs _ List.mem_cons_self
  have c_is_whole : Cal l.prog w K mg base 1 "is_whole" ["thing"] _ := ⟨f_is_whole, _, PySem.W.mg_of X G a_is_whole, k_is_whole, b_is_whole, ok_is_whole (k := 0) F_is_whole z⟩
  have c_downward : Cal l.prog w K mg base 1 "downward" ["top", "bottom"] _ := ⟨f_downward, _, PySem.W.mg_of X G a_downward, k_downward, b_downward, ok_downward (k := 0) F_downward⟩
  have c_upward : Cal l.prog w K mg base 1 "upward" ["top", "bottom"] _ := ⟨f_upward, _, PySem.W.mg_of X G a_upward, k_upward, b_upward, ok_upward (k := 0) F_upward⟩
  have c_nearest_greater : Cal l.prog w K mg base 1 "nearest_greater" ["top", "bottom"] _ := ⟨f_nearest_greater, _, PySem.W.mg_of X G a_nearest_greater, k_nearest_greater, b_nearest_greater, ok_nearest_greater (k := 0) F_nearest_greater⟩
  have MM : Mans l.prog w K mg base A_MANNERS es_MANNERS dn_MANNERS := ⟨PySem.W.mg_of X G g_MANNERS, ⟨t_MANNERS, y_MANNERS, w_MANNERS⟩, fun m => match m with
    | .down => ⟨f_downward, _, d_MANNERS_down, k_downward, b_downward, ok_downward (k := 1) F_downward⟩
    | .up => ⟨f_upward, _, d_MANNERS_up, k_upward, b_upward, ok_upward (k := 1) F_upward⟩
    | .inn => ⟨f_inward, _, d_MANNERS_in, k_inward, b_inward, ok_inward F_inward c_downward c_upward⟩
    | .out => ⟨f_outward, _, d_MANNERS_out, k_outward, b_outward, ok_outward F_outward c_downward c_upward⟩
    | .half => ⟨f_nearest_greater, _, d_MANNERS_half, k_nearest_greater, b_nearest_greater, ok_nearest_greater (k := 1) F_nearest_greater⟩
    | .even => ⟨f_nearest_even, _, d_MANNERS_even, k_nearest_even, b_nearest_even, ok_nearest_even F_nearest_even c_nearest_greater⟩
    | .far => ⟨f_nearest_far, _, d_MANNERS_far, k_nearest_far, b_nearest_far, ok_nearest_far F_nearest_far c_nearest_greater⟩⟩
  have c_is_manner : Cal l.prog w K mg base 1 "is_manner" ["thing"] _ := ⟨f_is_manner, _, PySem.W.mg_of X G a_is_manner, k_is_manner, b_is_manner, ok_is_manner (k := 0) MM F_is_manner z⟩
  have Z : FCst K mg A_ENDS := ⟨⟨_, PySem.W.mg_of X G g_LEAST_WIDTH⟩, ⟨_, PySem.W.mg_of X G g_GREATEST_WIDTH⟩, ⟨_, PySem.W.mg_of X G g_GREATEST_POINT⟩, PySem.W.mg_of X G g_ENDS, T_ENDS⟩
  have c_is_width : Cal l.prog w K mg base 2 "is_width" ["thing"] _ := ⟨f_is_width, _, PySem.W.mg_of X G a_is_width, k_is_width, b_is_width, ok_is_width Z F_is_width c_is_whole⟩
  have c_is_point : Cal l.prog w K mg base 2 "is_point" ["thing"] _ := ⟨f_is_point, _, PySem.W.mg_of X G a_is_point, k_is_point, b_is_point, ok_is_point Z F_is_point z c_is_whole⟩
  have c_is_ends : Cal l.prog w K mg base 1 "is_ends" ["thing"] _ := ⟨f_is_ends, _, PySem.W.mg_of X G a_is_ends, k_is_ends, b_is_ends, ok_is_ends (k := 0) Z F_is_ends z⟩
  have XX : Errs K mg CE CB CW CN CU CT := ⟨PySem.W.mg_of X G aC_CE, PySem.W.mg_of X G aC_CB, PySem.W.mg_of X G aC_CW, PySem.W.mg_of X G aC_CN, PySem.W.mg_of X G aC_CU, PySem.W.mg_of X G aC_CT, XC_CB, nf_CB, xm, ki_B, ki_W, ki_N, ki_U, ki_T⟩
  have BB : Bads K A_MANNERS := ⟨bd_0, bd_1, bd_2, bd_3, bd_4, bd_5, bd_6⟩
  have okF := ok_Form___init__ (base := base) (C := C) EC_CB (bad_ini EC_CB IC_CB) F_Form___init__ c_is_width c_is_point c_is_manner c_is_ends
  have c_Form : CalCX l.prog w K mg base 3 "Form" C ["self", "width", "point", "manner", "ends"] [] _ := ⟨f_Form___init__, _, _, ⟨mk_C, a_Form___init__, i_Form___init__, kc_C⟩, PySem.W.mg_of X G aC_C, .nil, b_Form4, okF⟩
  have c_Form_k : CalCXK l.prog w K mg base 3 "Form" C ["self", "width", "point", "manner", "ends"] 0 ["ends", "manner", "point", "width"] _ _ := ⟨f_Form___init__, _, _, ⟨mk_C, a_Form___init__, i_Form___init__, kc_C⟩, PySem.W.mg_of X G aC_C, kbf, okF⟩
  have c__law_cell_at : Cal l.prog w K mg base 1 "_law_cell_at" ["_law_script", "_law_k"] _ := ⟨f__law_cell_at, _, PySem.W.mg_of X G a__law_cell_at, k__law_cell_at, b__law_cell_at, ok_cell (k := 0) F__law_cell_at z.len⟩
  have c__law_well : Cal l.prog w K mg base 1 "_law_well" ["_law_cell"] _ := ⟨f__law_well, _, PySem.W.mg_of X G a__law_well, k__law_well, b__law_well, ok_well (k := 0) F__law_well z.int⟩
  have c__law_draw : Cal l.prog w K mg base 1 "_law_draw" ["_law_well_here", "_law_many"] _ := ⟨f__law_draw, _, PySem.W.mg_of X G a__law_draw, k__law_draw, b__law_draw, ok_draw (k := 0) F__law_draw⟩
  have c__law_bad_width : Cal l.prog w K mg base 2 "_law_bad_width" ["_law_well_here"] _ := ⟨f__law_bad_width, _, PySem.W.mg_of X G a__law_bad_width, k__law_bad_width, b__law_bad_width, ok__law_bad_width F__law_bad_width c__law_draw⟩
  have c__law_bad_point : Cal l.prog w K mg base 2 "_law_bad_point" ["_law_well_here"] _ := ⟨f__law_bad_point, _, PySem.W.mg_of X G a__law_bad_point, k__law_bad_point, b__law_bad_point, ok__law_bad_point F__law_bad_point c__law_draw⟩
  have c__law_bad_manner : Cal l.prog w K mg base 2 "_law_bad_manner" ["_law_well_here"] _ := ⟨f__law_bad_manner, _, PySem.W.mg_of X G a__law_bad_manner, k__law_bad_manner, b__law_bad_manner, ok__law_bad_manner BB F__law_bad_manner c__law_draw⟩
  have c__law_bad_ends : Cal l.prog w K mg base 2 "_law_bad_ends" ["_law_well_here"] _ := ⟨f__law_bad_ends, _, PySem.W.mg_of X G a__law_bad_ends, k__law_bad_ends, b__law_bad_ends, ok__law_bad_ends F__law_bad_ends c__law_draw⟩
  exact ok_law F_law z XX EC_CB TB F__law_told (PySem.W.mg_of X G a__law_told) b__law_told c__law_cell_at c__law_well c__law_draw c__law_bad_width c__law_bad_point c__law_bad_manner c__law_bad_ends c_Form c_Form_k

end E1

open PySem PySem.W PyProof.Rows
set_option maxRecDepth 100000 in
set_option maxHeartbeats 0 in
theorem PySem.Challenge.cw_echobound_k05_forms_refused_holds : PySem.Challenge.rw_echobound_k05_forms_refused.Holds := by
  w_on; o_law; km_head; (case hw => w_witness2)
  k_fill
  refine LamX.walk_ofTs (l := PySem.Challenge.rw_echobound_k05_forms_refused) (n := 63) (k := 8) (x := "_law_script") (CX := fun _ => L2.CX0) rfl (by decide) rfl ⟨rfl, by decide, by decide⟩ (fun w h Y => PySem.W.km_in_of Y) ?F (fun _ _ _ _ _ h => h)
  case F =>
    intro w mg fa h Y KX G hmg
    refine' E1.all_mk KX G hmg ?a_is_whole ?l_is_whole ?c_is_whole ?k_is_whole ?a_downward ?l_downward ?c_downward ?k_downward ?a_upward ?l_upward ?c_upward ?k_upward ?a_inward ?l_inward ?c_inward ?k_inward ?a_outward ?l_outward ?c_outward ?k_outward ?a_nearest_greater ?l_nearest_greater ?c_nearest_greater ?k_nearest_greater ?a_nearest_even ?l_nearest_even ?c_nearest_even ?k_nearest_even ?a_nearest_far ?l_nearest_far ?c_nearest_far ?k_nearest_far ?a_is_manner ?l_is_manner ?c_is_manner ?k_is_manner ?a_is_width ?l_is_width ?c_is_width ?k_is_width ?a_is_point ?l_is_point ?c_is_point ?k_is_point ?a_is_ends ?l_is_ends ?c_is_ends ?k_is_ends ?a__law_cell_at ?l__law_cell_at ?c__law_cell_at ?k__law_cell_at ?a__law_well ?l__law_well ?c__law_well ?k__law_well ?a__law_draw ?l__law_draw ?c__law_draw ?k__law_draw ?a__law_bad_width ?l__law_bad_width ?c__law_bad_width ?k__law_bad_width ?a__law_bad_point ?l__law_bad_point ?c__law_bad_point ?k__law_bad_point ?a__law_bad_manner ?l__law_bad_manner ?c__law_bad_manner ?k__law_bad_manner ?a__law_bad_ends ?l__law_bad_ends ?c__law_bad_ends ?k__law_bad_ends ?a__law_told ?l__law_told ?c__law_told ?k__law_told ?a_law ?l_law ?c_law ?k_law ?lc_law ?v11_law ?hd_law ?nT_law ?hT_law ?aC_C ?pg_C ?hd_C ?po_C ?sa_C ?mk_C ?kc_C ?a_Form___init__ ?i_Form___init__ ?l_Form___init__ ?c_Form___init__ ?k_Form___init__ ?t_Form___init__ ?g_LEAST_WIDTH ?g_GREATEST_WIDTH ?g_GREATEST_POINT ?g_ENDS ?t_ENDS ?g_MANNERS ?t_MANNERS ?y_MANNERS ?w_MANNERS ?d_MANNERS_down ?d_MANNERS_up ?d_MANNERS_in ?d_MANNERS_out ?d_MANNERS_half ?d_MANNERS_even ?d_MANNERS_far ?bd_0 ?bd_1 ?bd_2 ?bd_3 ?bd_4 ?bd_5 ?bd_6 ?aC_CE ?aC_CW ?aC_CN ?aC_CU ?aC_CT ?aC_CB ?ei_CB ?eo_CB ?sa_CB ?ga_CB ?gg_CB ?kC_CB ?ex_CB ?ty_CB ?hd_CB ?ha_CB ?hn_CB ?ht_CB ?hm_CB ?iC_CB ?tC_CB ?l_CB ?cd_CB ?lc_CB ?v2_CB ?fl_CB ?ce_CB ?nf_CB ?su_CB ?sA_CB ?sf_CB ?th_CB ?ms_CB ?tp_CB ?xm ?ki_B ?ki_W ?ki_N ?ki_U ?ki_T ?z_isinstance ?z_int ?z_bool ?z_str ?z_abs ?z_len ?z_min
    (case a_is_whole => k_is)
    (case l_is_whole => k_is)
    (case c_is_whole => k_is)
    (case k_is_whole => k_is)
    (case a_downward => k_is)
    (case l_downward => k_is)
    (case c_downward => k_is)
    (case k_downward => k_is)
    (case a_upward => k_is)
    (case l_upward => k_is)
    (case c_upward => k_is)
    (case k_upward => k_is)
    (case a_inward => k_is)
    (case l_inward => k_is)
    (case c_inward => k_is)
    (case k_inward => k_is)
    (case a_outward => k_is)
    (case l_outward => k_is)
    (case c_outward => k_is)
    (case k_outward => k_is)
    (case a_nearest_greater => k_is)
    (case l_nearest_greater => k_is)
    (case c_nearest_greater => k_is)
    (case k_nearest_greater => k_is)
    (case a_nearest_even => k_is)
    (case l_nearest_even => k_is)
    (case c_nearest_even => k_is)
    (case k_nearest_even => k_is)
    (case a_nearest_far => k_is)
    (case l_nearest_far => k_is)
    (case c_nearest_far => k_is)
    (case k_nearest_far => k_is)
    (case a_is_manner => k_is)
    (case l_is_manner => k_is)
    (case c_is_manner => k_is)
    (case k_is_manner => k_is)
    (case a_is_width => k_is)
    (case l_is_width => k_is)
    (case c_is_width => k_is)
    (case k_is_width => k_is)
    (case a_is_point => k_is)
    (case l_is_point => k_is)
    (case c_is_point => k_is)
    (case k_is_point => k_is)
    (case a_is_ends => k_is)
    (case l_is_ends => k_is)
    (case c_is_ends => k_is)
    (case k_is_ends => k_is)
    (case a__law_cell_at => k_is)
    (case l__law_cell_at => k_is)
    (case c__law_cell_at => k_is)
    (case k__law_cell_at => k_is)
    (case a__law_well => k_is)
    (case l__law_well => k_is)
    (case c__law_well => k_is)
    (case k__law_well => k_is)
    (case a__law_draw => k_is)
    (case l__law_draw => k_is)
    (case c__law_draw => k_is)
    (case k__law_draw => k_is)
    (case a__law_bad_width => k_is)
    (case l__law_bad_width => k_is)
    (case c__law_bad_width => k_is)
    (case k__law_bad_width => k_is)
    (case a__law_bad_point => k_is)
    (case l__law_bad_point => k_is)
    (case c__law_bad_point => k_is)
    (case k__law_bad_point => k_is)
    (case a__law_bad_manner => k_is)
    (case l__law_bad_manner => k_is)
    (case c__law_bad_manner => k_is)
    (case k__law_bad_manner => k_is)
    (case a__law_bad_ends => k_is)
    (case l__law_bad_ends => k_is)
    (case c__law_bad_ends => k_is)
    (case k__law_bad_ends => k_is)
    (case a__law_told => k_is)
    (case l__law_told => k_is)
    (case c__law_told => k_is)
    (case k__law_told => k_is)
    (case a_law => k_is)
    (case l_law => k_is)
    (case c_law => k_is)
    (case k_law => k_is)
    (case lc_law => k_is)
    (case v11_law => rfl)
    (case hd_law => first | kernel_rfl | rfl | decide +kernel)
    (case nT_law => first | kernel_rfl | rfl | decide +kernel)
    (case hT_law => exact PySem.W.km_tabs_of Y _ (by first | k_mem | decide | simp))
    (case aC_C => k_is)
    (case pg_C => k_is)
    (case hd_C => k_is)
    (case po_C => k_is)
    (case sa_C => k_is)
    (case mk_C => k_is)
    (case kc_C => k_is)
    (case a_Form___init__ => k_is)
    (case i_Form___init__ => k_is)
    (case l_Form___init__ => k_is)
    (case c_Form___init__ => k_is)
    (case k_Form___init__ => k_is)
    (case t_Form___init__ => k_is)
    (case g_LEAST_WIDTH => k_is)
    (case g_GREATEST_WIDTH => k_is)
    (case g_GREATEST_POINT => k_is)
    (case g_ENDS => k_is)
    (case t_ENDS => k_is)
    (case g_MANNERS => k_is)
    (case t_MANNERS => k_is)
    (case y_MANNERS => (repeat' first | exact trivial | refine ⟨⟨_, _, rfl, rfl⟩, ?_⟩))
    (case w_MANNERS => first | k_is | rfl | decide +kernel)
    (case d_MANNERS_down => k_is)
    (case d_MANNERS_up => k_is)
    (case d_MANNERS_in => k_is)
    (case d_MANNERS_out => k_is)
    (case d_MANNERS_half => k_is)
    (case d_MANNERS_even => k_is)
    (case d_MANNERS_far => k_is)
    (case bd_0 => k_is)
    (case bd_1 => k_is)
    (case bd_2 => k_is)
    (case bd_3 => k_is)
    (case bd_4 => k_is)
    (case bd_5 => k_is)
    (case bd_6 => k_is)
    (case aC_CE => k_is)
    (case aC_CW => k_is)
    (case aC_CN => k_is)
    (case aC_CU => k_is)
    (case aC_CT => k_is)
    (case aC_CB => k_is)
    (case ei_CB => kx_is)
    (case eo_CB => kx_is)
    (case sa_CB => k_is)
    (case ga_CB => k_is)
    (case gg_CB => k_is)
    (case kC_CB => k_is)
    (case ex_CB => k_is)
    (case ty_CB => k_is)
    (case hd_CB => k_is)
    (case ha_CB => k_is)
    (case hn_CB => k_is)
    (case ht_CB => k_is)
    (case hm_CB => k_is)
    (case iC_CB => k_is)
    (case tC_CB => k_is)
    (case l_CB => k_is)
    (case cd_CB => k_is)
    (case lc_CB => k_is)
    (case v2_CB => rfl)
    (case fl_CB => first | rfl | decide +kernel)
    (case ce_CB => k_is)
    (case nf_CB => k_is)
    (case su_CB => ks_is)
    (case sA_CB => k_is)
    (case sf_CB => k_is)
    (case th_CB => k_is)
    (case ms_CB => k_is)
    (case tp_CB => first | rfl | decide +kernel)
    (case xm => kts_exm)
    (case ki_B => kit_is)
    (case ki_W => kit_is)
    (case ki_N => kit_is)
    (case ki_U => kit_is)
    (case ki_T => kit_is)
    (case z_isinstance => k_is)
    (case z_int => k_is)
    (case z_bool => k_is)
    (case z_str => k_is)
    (case z_abs => k_is)
    (case z_len => k_is)
    (case z_min => k_is)
