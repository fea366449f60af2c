import PyProof.Rows.All
import Wide.All
import OpenK.AllK
import Wide.FinOn
import HandS.Codes
import HandS.ForMost
import HandS.Wide
import HandS.Zip
import HandS.IsInst
import HandS.Defaults
import HandS.Style
import HandS.ForExc
import HandS.Walk
import HandS.More
import HandS.CallLocal
import HandS.FStr
import HandS.ExcField
import HandS.ExcIs
import KE.KExcSuper
import KE.KExcInit
import KE.KExcIs
import HandS.Lambda
import HandS.Small
import HandS.StrMore
import HandS.Text
import HandS.Iter
import KE.KxField
import OpenK.KEqL
import HandS.Flow
import KE.IntTextText
import KE.IntTextLaws
import HandS.TupMul
import HandS.WideBits
import KE.BitLaws
import KE.KBits
import PyProof.FitsInt
import HandS.MakeKw
import HandS.OwnEq
import KE.KCallOwn
import KE.KFmtOwn
import HandS.RaiseMore
import HandS.Conv
import HandS.NoneIn
import HandS.TryOnly
import KE.RegKSuper
import KE.RegKIsAll
import KE.RegKTryMore
import KE.KNestM
import HandS.EndTab
import PySem.Challenge.RW_echobound_k91_forms_as_texts
set_option Elab.async false
set_option linter.all false
set_option maxRecDepth 100000
set_option maxHeartbeats 4000000
namespace PySem
namespace ErrX
open PySem.W PySem.Calls PyProof.Rows PySem.HandSPX
abbrev bmA : List Value := [.type "ArithmeticError", .type "Exception", .type "BaseException", .type "object"]
/-- what the written part says of an error class under ArithmeticError -/
structure ErrC (K : Frag) (mg : Str → Option Value) (x : Str) (C : Addr) : Prop where
  gC : mg x = some (.ref C)
  ei : excInitIn K C bmA "ArithmeticError.__new__" = true
  eo : excOver K C bmA = true
  sa : findIn K (.ref C) "__setattr__" = some (some (.builtin "object.__setattr__"))
  ga : findIn K (.ref C) "__getattribute__" = some (some (.builtin "BaseException.__getattribute__"))
  gg : findIn K (.ref C) "__getattr__" = some none
  kC : keepIn K (.ref C) = true
  exC : subIn K (.ref C) (.type "BaseException") = some true
  tyC : typeIn K (.ref C) = some (.type "type")
  hdC : hasDictIn K C = true
/-- its __init__: super().__init__(f'..'), then one field of the same name as the parameter -/
structure IniC (prog : Program) (K : Frag) (mg : Str → Option Value) (C fI cc : Addr) (qual fld : Str) (st : Stmt) (dV : Value) : Prop where
  iC : findIn K (.ref C) "__init__" = some (some (.ref fI))
  tC : typeIn K (.ref fI) = some (.type "function")
  fn : ∃ (oc : Value) (od : Option Addr) (kV doc pm : Value) (an : Option Addr) (cda : Addr) (ct : Value) (osl : Array (Option Value)),
    K.lookup fI = some ⟨oc, od, .func (ksFn "__init__" qual (L2.defArgs st) (L2.defBody st) (L2.defScope st) dV kV doc pm an (.ref cda) ct cc), osl⟩ ∧ codeIn K (.ref cda) qual = true ∧
    ∃ (ccl : Value) (cdd : Option Addr) (vs : Array Value) (ccs : Array (Option Value)) (file : Str) (tf : Tok), K.lookup cda = some ⟨ccl, cdd, .fields vs, ccs⟩ ∧ vs[2]? = some (.str file tf) ∧ ((prog.main.file : Str) == file) = true
  cell : ∃ (cl : Value) (cld : Option Addr) (csl : Array (Option Value)), K.lookup cc = some ⟨cl, cld, .cell (some (.ref C)), csl⟩
  noF : findIn K (.ref C) fld = some none
  sup : ks_superIn K C C "__init__" = some (some (.builtin "ArithmeticError.__init__"))
  subA : subIn K (.ref C) (.type "ArithmeticError") = some true
  slf : mroIn K C (.ref C) = some true
  th : nsIn K cStatics "thirdparty.any" = some none
  msup : mg "super" = none
  top : (prog.main.scope.names.lookup ("super" : Str)).isSome = false
/-- the parts of the text -/
inductive FP (fld : Str) : Expr → Prop
  | c {x : Str} {j : Nat} {pos : Pos} (h : x.length ≤ 1000) : FP fld (.Constant (.str x) j pos)
  | f {p q : Pos} : FP fld (.FormattedValue (.Name fld p) (-1) none q)
/-- a value that is written as a text of at most a thousand signs -/
def FmtOk (v : Value) : Prop := (∃ y t, v = .str y t ∧ y.length ≤ 1000) ∨ ∃ i t, v = .int i t ∧ i.natAbs.log2 < 1920 ∧ (toString i : String).length ≤ 1000
section
variable {prog : Program} {w : World} {A : Around} {E : Value → Shared → Prop} {R : Result → Shared → Prop} {s : Shared} {K : Frag} {mg mb : Str → Option Value} {C fI cc : Addr} {qual fld : Str} {st : Stmt}
theorem joins_ok {env : Env} {m : Str → Option Value} {v : Value} (hk : env.scope.kind = .function) (hl : env.kindOf fld = some .local) (hd : (fld == ("__debug__" : Str)) = false) (hv : m fld = some v) (fv : FmtOk v) :
    ∀ (es : List Expr) (acc : Str) (s : Shared) (Q : Str → Shared → Prop), (∀ e ∈ es, FP fld e) → acc.length + 1000 * es.length ≤ 100000 → s.heap.Ns env.locals m →
      (∀ out tk, out.length ≤ 100000 → Q out { s with toks := tk }) → Joins (model prog w) A E (evalEach es env) acc Q s
  | [], acc, s, Q, _, hz, _, hq => by
    have e0 : evalEach [] env = [] := by first | rfl | simp [evalEach]
    rw [e0]
    have := hq acc s.toks (by simpa using hz)
    exact this
  | e :: es, acc, s, Q, hp, hz, hn, hq => by
    have e0 : evalEach (e :: es) env = eval e env :: evalEach es env := by first | rfl | simp [evalEach]
    rw [e0]
    have hp' : ∀ e ∈ es, FP fld e := fun e h => hp e (List.mem_cons_of_mem _ h)
    rw [List.length_cons] at hz
    have step : ∀ (y : Str) (t : Tok) (tk : Nat), y.length ≤ 1000 → ∃ y' t', Value.str y t = .str y' t' ∧ (acc ++ y').length ≤ sizeLine ∧ Joins (model prog w) A E (evalEach es env) (acc ++ y') Q { s with toks := tk } := fun y t tk hy => by
      have hlen : (acc ++ y).length = acc.length + y.length := by first | exact Str.length_append _ _ | simp
      refine ⟨y, t, rfl, ?_, ?_⟩
      · rw [hlen, sizeLine_eq]
        omega
      · exact joins_ok hk hl hd hv fv es (acc ++ y) { s with toks := tk } Q hp' (by rw [hlen]; omega) hn fun out tk' ho => hq out tk' ho
    show wpAny _ _ (eval e env) _ _ _
    cases hp e List.mem_cons_self with
    | c h => exact Calls.Constant_str (step _ _ _ h)
    | f =>
      refine wpAny_FormattedValue_plain (wpAny_Name (wpAny_loadName_local hk hl hn hv ?_) hd)
      rcases fv with ⟨y, t, rfl, hy⟩ | ⟨i, t, rfl, hi, hy⟩
      · exact wpAny_formatField_str (step y t s.toks hy) (step y _ _ hy) (by rw [sizeLine_eq]; omega)
      · exact wpAny_formatField_int hi (step _ _ _ (by rw [ofString_length]; exact hy))
end
end ErrX
end PySem

namespace PySem
namespace ErrX
open PySem.W PySem.Calls PyProof.Rows PySem.HandSPX
/-- a dict with one text for its key -/
theorem one_key {h : Heap} {dx : Addr} {fld : Str} {hs : Int} {tk : Tok} {v : Value} (e : h.get? dx = some (dictOf [⟨hs, .str fld tk, v⟩] 1)) : h.Ns1 dx (fun y => if y = fld then some v else none) := by
  refine ⟨_, _, _, e, rfl, fun d hd => ?_, List.pairwise_singleton _ _, fun y => ?_⟩
  · obtain rfl : d = ⟨hs, .str fld tk, v⟩ := by simpa using hd
    exact ⟨fld, tk, rfl⟩
  · by_cases z : y = fld
    · subst z
      simp [nsFind, findBy, Value.isStr]
    · simp [nsFind, findBy, Value.isStr, z, Ne.symm z]
/-- what __init__ leaves of a fresh error at x -/
structure IniEnd (h h' : Heap) (x C dx : Addr) (fld : Str) (v : Value) : Prop where
  keep : ∀ b o, b ≠ x → h.get? b = some o → h'.get? b = some o
  obj : ∃ t1 : Addr, h'.get? x = some { cls := .ref C, dict := some dx, data := .fields #[.ref t1, .none, .none, .none, .bool false, .none] }
  dbig : h.objs.size ≤ dx
  dne : dx ≠ x
  ns : h'.Ns1 dx (fun y => if y = fld then some v else none)
section
variable {prog : Program} {w : World} {A : Around} {E : Value → Shared → Prop} {R : Result → Shared → Prop} {s : Shared} {K : Frag} {mg : Str → Option Value} {C fI cc : Addr} {nm qual fld : Str} {st : Stmt}
abbrev iniScope (fld : Str) : Scope := { kind := .function, names := [(Str.ofString "self", .local), (fld, .local), (Str.ofString "__class__", .free), (Str.ofString "super", .globalImplicit)], isGenerator := false, isCoroutine := false, more := [] }
abbrev iniBody (fld : Str) (v1 v2 : Expr) (rest : List Expr) (p1 p2 p3 p4 p5 p6 q1 q2 q3 q4 : Pos) : List Stmt :=
  [.Expr (.Call (.Attribute (.Call (.Name "super" p1) [] [] p2) "__init__" p3) [.JoinedStr (v1 :: v2 :: rest) p4] [] p5) p6, .Assign [.Attribute (.Name "self" q1) fld q2] (.Name fld q3) q4]
/-- a field's name that is none of these -/
structure FldOk (fld : Str) : Prop where
  f1 : (fld == Str.ofString "self") = false
  f2 : (Str.ofString "__class__" == fld) = false
  f3 : (Str.ofString "super" == fld) = false
  f4 : (Str.ofString "self" == fld) = false
  f5 : (fld == Str.ofString "__debug__") = false
section
variable {fld : Str}
theorem lk_self : (iniScope fld).names.lookup (Str.ofString "self") = some .local := by
  rw [List.lookup_cons, beq_self_eq_true]
theorem lk_fld (O : FldOk fld) : (iniScope fld).names.lookup fld = some .local := by
  rw [List.lookup_cons, O.f1, List.lookup_cons, beq_self_eq_true]
theorem lk_cls (O : FldOk fld) : (iniScope fld).names.lookup (Str.ofString "__class__") = some .free := by
  rw [List.lookup_cons, show (Str.ofString "__class__" == Str.ofString "self") = false by decide +kernel, List.lookup_cons, O.f2, List.lookup_cons, beq_self_eq_true]
theorem lk_sup (O : FldOk fld) : (iniScope fld).names.lookup (Str.ofString "super") = some .globalImplicit := by
  rw [List.lookup_cons, show (Str.ofString "super" == Str.ofString "self") = false by decide +kernel, List.lookup_cons, O.f3, List.lookup_cons, show (Str.ofString "super" == Str.ofString "__class__") = false by decide +kernel, List.lookup_cons, beq_self_eq_true]
end
theorem err_init {s1 p1 p2 p3 p4 p5 p6 q1 q2 q3 q4 : Pos} {v1 v2 : Expr} {rest : List Expr} (EC : ErrC K mg nm C) {dV : Value} (IC : IniC prog K mg C fI cc qual fld st dV) (O : FldOk fld)
    (hbd : L2.defBody st = iniBody fld v1 v2 rest p1 p2 p3 p4 p5 p6 q1 q2 q3 q4)
    (hpar : ((L2.defArgs st).posonlyargs ++ (L2.defArgs st).args).head? = some { arg := "self", annotation := none, pos := s1 })
    (hps : ∀ e ∈ v1 :: v2 :: rest, FP fld e) (hlen : rest.length ≤ 20) (hpos : (p3.endLine == p5.line) = true) (hsc : L2.defScope st = iniScope fld)
    {x t0 : Addr} {v : Value} (MO : L2.Mod K mg s.heap) (hx : s.heap.get? x = some (excO C t0)) (hnx : K.lookup x = none) (hroom : A.depth < recursionLimit) (fv : FmtOk v)
    (hbind : ∀ kV doc pm an cda ct, BindsTo s (ksFn "__init__" qual (L2.defArgs st) (L2.defBody st) (L2.defScope st) dV kV doc pm an (.ref cda) ct cc) ⟨[.ref x, v], []⟩ [(Str.ofString "self", .ref x), (fld, v)])
    (hq : ∀ h' tk dx, IniEnd s.heap h' x C dx fld v → R (.ok (.ret .none)) { s with heap := h', toks := tk }) :
    codeAny (model prog w) A (.call (.ref fI) ⟨[.ref x, v], []⟩) R s := by
  obtain ⟨oc, od, kV, doc, pm, an, cda, ct, osl, ho, hcd, ccl, cdd, vs, ccs, file, tf, hcda, hvs, hfile⟩ := IC.fn
  have X := MO.kin
  have hb := hbind kV doc pm an cda ct
  rw [hbd, hsc] at ho hb
  obtain ⟨cl, cld, csl, hcell⟩ := IC.cell
  obtain ⟨mb, hmb, hmb2⟩ := MO.blt
  obtain ⟨nm', N', qn, bs, bm, hdct, sn, sub, ab, col, dd, k0, k1, k2, k3, k5, hC, hT⟩ := excInit_of X EC.ei
  obtain ⟨hp, g, d, t, os⟩ := s
  refine ks_codeAny_call_defAt (fd := ksFn "__init__" qual (L2.defArgs st) (iniBody fld v1 v2 rest p1 p2 p3 p4 p5 p6 q1 q2 q3 q4) (iniScope fld) dV kV doc pm an (.ref cda) ct cc) (body := iniBody fld v1 v2 rest p1 p2 p3 p4 p5 p6 q1 q2 q3 q4) (binds := [(Str.ofString "self", .ref x), (fld, v)])
    hroom (X _ _ ho) rfl MO.nolimit (codeRec_of X hcd) rfl hb ?_ ?_ (fun h₁ hns k => ?_)
  · intro y hy z
    have hy' : y ∈ (iniScope fld).names := hy
    simp only [List.mem_cons, List.not_mem_nil, or_false] at hy'
    rcases hy' with rfl | rfl | rfl | rfl <;> cases z
  · intro y hy
    simp only [List.mem_cons, List.not_mem_nil, or_false] at hy
    rcases hy with rfl | rfl
    · exact lk_self
    · exact lk_fld O
  · have X₁ : K.In h₁ := X.keeps k
    have hx₁ := k _ _ hx
    have hC₁ := k _ _ hC
    have mS : (fun y => [(Str.ofString "self", Value.ref x), (fld, v)].reverse.lookup y) (Str.ofString "self") = some (.ref x) := by
      show List.lookup (Str.ofString "self") [(fld, v), (Str.ofString "self", Value.ref x)] = _
      rw [List.lookup_cons, O.f4, List.lookup_cons, beq_self_eq_true]
    have mF : (fun y => [(Str.ofString "self", Value.ref x), (fld, v)].reverse.lookup y) fld = some v := by
      show List.lookup fld [(fld, v), (Str.ofString "self", Value.ref x)] = _
      rw [List.lookup_cons, beq_self_eq_true]
    refine ks_wpAt_execs_cons (ks_wpAt_Expr_any (ks_wpAt_MethodCall (pl := (do return (← importBound (.Call (.Name "super" p1) [] [] p2) (ksEnv qual (iniScope fld) hp.objs.size fI (.ref cda) cc)).getD true)) ?_ ?_))
    rotate_left
    · rw [arm_eval_Call]
      unfold methodCall
      have e2 : ∀ env : Env, methodCallPos (methodCallForm ([Expr.JoinedStr (v1 :: v2 :: rest) p4].length + ([] : List Keyword).length) (backTo p5 (starEach [Expr.JoinedStr (v1 :: v2 :: rest) p4] env)) (backToKw p5 (keywordEach [] env))) (.Call (.Name "super" p1) [] [] p2) env p3 p5 = pure p5 := fun env => by
        show (if (!true || p3.endLine == p5.line) = true then pure p5 else _) = _
        rw [hpos]
        rfl
      rw [e2]
      rfl
    refine ks_wpAt_super_base (f := fI) (cc := cda) (lk_sup O) (lk_cls O) (by decide +kernel) rfl (X₁ _ _ ho) rfl hpar rfl (X₁ _ _ hcda) rfl hvs hfile IC.top ?_
    refine ks_loadName_global rfl (lk_sup O) (loadGlobal_builtin (MO.glob.keeps k) IC.msup (hmb.keeps k) ((hmb2 "super" (by decide)).trans (show bootBuiltins "super" = some (.type "super") by decide +kernel)) ⟨rfl, ?_⟩)
    refine wpAny_loadName_free rfl (lk_cls O) rfl ⟨_, X₁ _ _ hcell, rfl⟩ ?_
    refine wpAny_loadName_local rfl lk_self hns mS ?_
    refine ks_wpAny_isType_cls hC₁ rfl ⟨rfl, ?_⟩
    refine ks_wpAny_call_super hC₁ rfl hx₁ rfl (fun c z => by cases z) (looks_mroIn X₁ IC.slf) (fun h₂ hso k₂ => ?_)
    have X₂ : K.In h₂ := X₁.keeps k₂
    have hx₂ := k₂ _ _ hx₁
    have I₂ : W.InstAt h₂ x (excO C t0) C none := ⟨hx₂, rfl, rfl, trivial⟩
    have hsup := IC.sup
    unfold ks_superIn at hsup
    cases hc : clsIn K C with
    | none =>
      rw [hc] at hsup
      cases hsup
    | some cd =>
    rw [hc] at hsup
    refine kxs_getMethod kxs_ArithmeticError hso (looks_opaque X₂ IC.th) (l₀ := cd.mro) (fun A Q E s k q => wpAny_bind ((looks_clsIn X₂ hc) A _ E s k (wpAny_pure q))) rfl X₂ hsup (I₂.type.andThen (looks_subIn X₂ IC.subA)) (ks_ne X₂ I₂ hc) (by decide +kernel) ?_
    have k₃ : ∀ b o, h₂.get? b = some o → (h₂.push (kxs_mw "ArithmeticError.__init__" x)).get? b = some o := fun b o e => Heap.get?_push_of_some _ e
    have hu : (h₂.push (kxs_mw "ArithmeticError.__init__" x)).get? h₂.objs.size = some (kxs_mw "ArithmeticError.__init__" x) := Heap.get?_push_at rfl rfl
    have kk : ∀ b o, hp.get? b = some o → (h₂.push (kxs_mw "ArithmeticError.__init__" x)).get? b = some o := fun b o e => k₃ _ _ (k₂ _ _ (k _ _ e))
    have hns₃ : (h₂.push (kxs_mw "ArithmeticError.__init__" x)).Ns hp.objs.size (fun y => [(Str.ofString "self", Value.ref x), (fld, v)].reverse.lookup y) := by
      obtain ⟨oL, es, ep, hL, r⟩ := hns
      exact ⟨oL, es, ep, k₃ _ _ (k₂ _ _ hL), r⟩
    have hx₃ := k₃ _ _ hx₂
    have hC₃ := kk _ _ hC
    have hsz : h₂.objs.size < (h₂.push (kxs_mw "ArithmeticError.__init__" x)).objs.size := Heap.lt_size hu
    generalize h₂.push (kxs_mw "ArithmeticError.__init__" x) = h₃ at *
    refine kxs_callWith (i := "ArithmeticError.__init__") (x := x) rfl (evalArgs_plain ?_)
    refine Calls.spliced_cons (wpAny_JoinedStr (pos := p4) (joins_ok (env := callEnv (ksFn "__init__" qual (L2.defArgs st) (iniBody fld v1 v2 rest p1 p2 p3 p4 p5 p6 q1 q2 q3 q4) (iniScope fld) dV kV doc pm an (.ref cda) ct cc) hp.objs.size fI) rfl (lk_fld O) O.f5 mF fv _ Str.empty _ _ hps ?_ hns₃ fun out tk ho => ⟨by rw [sizeLine_eq]; omega, ?_⟩))
    · rw [List.length_cons, List.length_cons]
      show 0 + 1000 * (rest.length + 1 + 1) ≤ 100000
      omega
    refine Calls.spliced_nil ⟨hu, ?_⟩
    -- the library's own rules, over the heap of the call with the error itself left out
    have xL : x ≠ hp.objs.size := Nat.ne_of_lt (Heap.lt_size hx)
    have nK : ∀ a o, K.lookup a = some o → a ∉ [x] := fun a o e z => by
      rw [List.mem_singleton.mp z, hnx] at e
      cases e
    have X₀ : K.In (hideAll hp [x]) := fun a o e => hideAll_get [x] (X a o e) (nK a o e)
    have F₃ : Fr (hideAll hp [x]) hp.objs.size h₃ (fun y => [(Str.ofString "self", Value.ref x), (fld, v)].reverse.lookup y) :=
      ⟨hns₃, fun b o e => kk b o (of_hideAll [x] e), Nat.le_of_eq (hideAll_size [x] hp)⟩
    have L₂ : hp.objs.size < h₂.objs.size := by
      obtain ⟨oL, es, ep, hL, _⟩ := hns
      exact Heap.lt_size (k₂ _ _ hL)
    have ux : h₂.objs.size ≠ x := Nat.ne_of_gt (Nat.lt_trans (Heap.lt_size hx) L₂)
    have uo : (hideAll hp [x]).get? h₂.objs.size = none := by
      cases e : (hideAll hp [x]).get? h₂.objs.size with
      | none => rfl
      | some o => exact absurd (Nat.lt_trans (Heap.lt_size (of_hideAll [x] e)) L₂) (Nat.lt_irrefl _)
    have N₃ : News (hideAll hp [x]) hp.objs.size h₃ [(h₂.objs.size, kxs_mw "ArithmeticError.__init__" x), (x, excObj C t0 none .none)] := fun p hp' => by
      rcases List.mem_cons.mp hp' with rfl | hp'
      · exact ⟨hu, Nat.ne_of_gt L₂, uo⟩
      · obtain rfl := List.mem_singleton.mp hp'
        exact ⟨hx₃, xL, hideAll_none [x] (List.mem_singleton.mpr rfl)⟩
    refine kxs_call F₃ X₀ N₃ F.excBase_ArithmeticError EC.ei List.mem_cons_self (.tail ux (.head fun p z => nomatch z)) (by show 1 ≤ sizeLine; decide) fun t1 h₄ F₄ N₄ lt₄ => ?_
    have X₄ : K.In h₄ := X₀.keeps F₄.keep
    have hx₄ : h₄.get? x = some (excO C t1) := (N₄ (x, excObj C t1 none .none) (by simp)).1
    have tx : t1 ≠ x := Nat.ne_of_gt (lt₄ (x, excObj C t0 none .none) (by simp))
    refine ks_wpAt_execs_cons (ks_wpAt_Assign_Attr (wpAt_of_wpAny (wpAny_Name (wpAny_loadName_local rfl (lk_fld O) F₄.ns mF ?_) O.f5)))
    refine wpAny_Name (wpAny_loadName_local rfl lk_self F₄.ns mS ?_) (by decide +kernel)
    refine set_plain X₄ (ox := excO C t1) (od := none) ⟨hx₄, rfl, rfl, trivial⟩ EC.sa ?_
    have free : takerIn K C fld = some none := by
      rw [takerIn, IC.noF]
      rfl
    refine osa_exc0 (pre := [(t1, _), (h₂.objs.size, _)]) (post := []) F.store_ArithmeticError F₄ N₄ X₄ EC.eo free EC.hdC (fun p z => ?_) (fun p z => nomatch z) (putName_dict _ _ _ _ _ _) rfl (by show 1 ≤ 1000; decide) fun dx h₅ F₅ N₅ lt₅ => ?_
    · rcases List.mem_cons.mp z with rfl | z
      · exact tx
      · obtain rfl := List.mem_singleton.mp z
        exact ux
    refine wpAt_of_wpAny (wpAny_execs_nil ?_)
    have xd : x < dx := lt₅ (x, excObj C t1 none .none) (by simp)
    have ud : h₂.objs.size < dx := lt₅ (h₂.objs.size, kxs_mw "ArithmeticError.__init__" x) (by simp)
    exact hq h₅ _ dx ⟨fun b o hb e => F₅.keep b o (hideAll_get [x] e fun z => hb (List.mem_singleton.mp z)), ⟨t1, (N₅ (x, excObj C t1 (some dx) .none) (by simp)).1⟩, Nat.le_of_lt (Nat.lt_trans L₂ ud), Nat.ne_of_gt xd, one_key (N₅ _ List.mem_cons_self).1⟩
end
end ErrX
end PySem

namespace PySem
namespace ErrX
open PySem.W PySem.Calls PyProof.Rows PySem.HandSPX
/-- a made error with one field -/
structure Made1 (h h' : Heap) (e C d : Addr) (fld : Str) (v : Value) : Prop where
  keep : ∀ b o, h.get? b = some o → h'.get? b = some o
  new : h.objs.size ≤ e
  obj : ∃ oe vs, h'.get? e = some oe ∧ oe.cls = .ref C ∧ oe.dict = some d ∧ oe.data = .fields vs ∧ vs[1]? = some .none
  dbig : h.objs.size ≤ d
  dne : d ≠ e
  ns : h'.Ns1 d (fun y => if y = fld then some v else none)
/-- its __init__ does as it should -/
structure IniOk (prog : Program) (w : World) (K : Frag) (mg : Str → Option Value) (C fI : Addr) (fld : Str) : Prop where
  iC : findIn K (.ref C) "__init__" = some (some (.ref fI))
  tC : typeIn K (.ref fI) = some (.type "function")
  run : ∀ (A : Around) (R : Result → Shared → Prop) (s : Shared) (x t0 : Addr) (v : Value), L2.Mod K mg s.heap → s.heap.get? x = some (excO C t0) → K.lookup x = none → A.depth < recursionLimit → FmtOk v →
    (∀ h' tk dx, IniEnd s.heap h' x C dx fld v → R (.ok (.ret .none)) { s with heap := h', toks := tk }) → codeAny (model prog w) A (.call (.ref fI) ⟨[.ref x, v], []⟩) R s
section
variable {prog : Program} {w : World} {A : Around} {E : Value → Shared → Prop} {R : Result → Shared → Prop} {s : Shared} {K : Frag} {mg : Str → Option Value} {C fI : Addr} {nm fld : Str}
theorem err_made (EC : ErrC K mg nm C) (IO : IniOk prog w K mg C fI fld) {v : Value} (MO : L2.Mod K mg s.heap) (hroom : A.depth + 1 < recursionLimit) (fv : FmtOk v)
    (hq : ∀ h' tk e d, Made1 s.heap h' e C d fld v → R (.ok (.ret (.ref e))) { s with heap := h', toks := tk }) :
    codeAny (model prog w) A (.call (.ref C) ⟨[v], []⟩) R s := by
  have X := MO.kin
  obtain ⟨nm', N', qn, bs, bm, hdct, sn, sub, ab, col, dd, k0, k1, k2, k3, k5, hC, hT⟩ := excInit_of X EC.ei
  obtain ⟨hp, g, dr, tk, os⟩ := s
  have k : ∀ b o, hp.get? b = some o → ((hp.push (kdv_tup [v])).push (excO C hp.objs.size)).get? b = some o := fun b o e => Heap.get?_push_of_some _ (Heap.get?_push_of_some _ e)
  have hget : ((hp.push (kdv_tup [v])).push (excO C hp.objs.size)).get? (hp.objs.size + 1) = some (excO C hp.objs.size) := by heap_get
  have hnx : K.lookup (hp.objs.size + 1) = none := by
    cases e : K.lookup (hp.objs.size + 1) with
    | none => rfl
    | some o =>
      have z : hp.get? (hp.objs.size + 1) = some o := X _ _ e
      exact absurd (Nat.lt_of_succ_lt (Heap.lt_size z)) (Nat.lt_irrefl _)
  have MO' : L2.Mod K mg ((hp.push (kdv_tup [v])).push (excO C hp.objs.size)) := by
    obtain ⟨mb, h1, h2⟩ := MO.blt
    exact ⟨X.keeps k, MO.glob.keeps k, ⟨mb, h1.keeps k, h2⟩, MO.nolimit.keeps k⟩
  refine call_own F.excBase_ArithmeticError hT hC (looks_findIn X IO.iC) (fun self => bind_fn X self IO.tC) (by show 1 ≤ sizeLine; decide) ?_
  refine IO.run _ _ ⟨(hp.push (kdv_tup [v])).push (excO C hp.objs.size), g, dr, tk, os⟩ _ _ _ MO' hget hnx ?_ fv fun h' tk' dx ⟨k', ⟨t1, hx⟩, dn, dne, hns⟩ => ?_
  · show A.depth + 1 < recursionLimit
    exact hroom
  · have old : ∀ b o, hp.get? b = some o → h'.get? b = some o := fun b o e => k' b o (Nat.ne_of_lt (Nat.lt_succ_of_lt (Heap.lt_size e))) (k b o e)
    have z : hp.objs.size + 1 + 1 ≤ dx := by
      first
        | (simpa only [Heap.size_push] using dn)
        | exact dn
        | (have q := dn; rw [Heap.size_push, Heap.size_push] at q; exact q)
    exact ⟨rfl, hq h' tk' (hp.objs.size + 1) dx ⟨old, Nat.le_succ _, ⟨_, _, hx, rfl, rfl, rfl, rfl⟩, Nat.le_trans (Nat.le_trans (Nat.le_succ _) (Nat.le_succ _)) z, dne, hns⟩⟩
end
end ErrX
end PySem
namespace E1
open PySem PySem.Spec PyProof.Rows L2
open PySem.ErrX (ErrC IniOk FmtOk)
/-- a value that is written as a text of at most a thousand signs -/
def VFmt (v : V) : Prop := (∃ y : Str, v = .str y ∧ y.length ≤ 1000) ∨ ∃ i : Int, v = .int i ∧ i.natAbs.log2 < 1920 ∧ (toString i : String).length ≤ 1000
theorem VFmt.ok {v : V} {u : Value} (h : VFmt v) (r : RelV v u) : FmtOk u := by
  rcases h with ⟨y, rfl, hy⟩ | ⟨i, rfl, hi, hy⟩
  · obtain ⟨t, rfl⟩ := (show ∃ t, u = Value.str y t from r)
    exact .inl ⟨y, t, rfl, hy⟩
  · obtain ⟨t, rfl⟩ := (show ∃ t, u = Value.int i t from r)
    exact .inr ⟨i, t, rfl, hi, hy⟩
theorem relO_one {fld : Str} {v : V} {v' : Value} (r : RelV v v') (f : Str) : RelO (List.lookup f [(fld, v)]) (if f = fld then some v' else none) := by
  by_cases hw : f = fld
  · subst hw
    rw [if_pos rfl]
    have q : List.lookup f [(f, v)] = some v := by simp [List.lookup]
    rw [q]
    exact r
  · rw [if_neg hw]
    have qw : (f == fld) = false := by simpa using hw
    have q2 : List.lookup f [(fld, v)] = none := by simp [List.lookup, qw]
    rw [q2]
    trivial
section
variable {X : Cx} {C fI : Addr} {x fld : Str}
/-- X(e), an error with one field -/
def tMkErr (C : Addr) (fld : Str) (ta : TA) : L2.St → Hp → XK → Prop := fun σ H Q => ta σ H fun vs H1 => ∃ v, vs = [v] ∧ VFmt v ∧ ∀ d, H1 d = none → Q (.ref C) (some d) (upd H1 d (.xd [(fld, v)]))
theorem pmk_err {a : Expr} {ta : TA} {p pos : Pos} {k : Nat} (EC : ErrC X.K X.mg x C) (IO : IniOk X.prog X.w X.K X.mg C fI fld) (hr : Room k X.A) (ha : PA X [a] ta) (hg : Gl X x := by rfl) (hdb : (x == ("__debug__" : Str)) = false := by decide)
    (he : starEach (a :: []) X.env = (false, eval a X.env) :: starEach [] X.env := by rfl) (hpl : (backTo pos (starEach [] X.env)).any (·.1) = false := by rfl) :
    PMk X (.Call (.Name x p) [a] [] pos) (tMkErr C fld ta) := by
  intro pins s σ H Q I h
  refine wpAny_Call_Name_kw (ld_glob I hg EC.gC ?_ hdb)
  refine PySem.W.callWith_K (h₀ := X.base) I.ok.mod.kin EC.kC (thn (ha.run pos pins s σ H _ I h) fun us s1 hh => ?_) he hpl
  obtain ⟨vs, H1, I1, r1, v, ev, fv, q1⟩ := hh
  subst ev
  refine ⟨I1.kIn, ?_⟩
  cases r1 with
  | cons rv rn =>
    rename_i v' us'
    cases rn
    show wpAny _ _ (call (.ref C) [v']) _ _ _
    have MO : Mod X.K X.mg s1.heap := by
      obtain ⟨mb, h1, h2⟩ := I1.mod.blt
      exact ⟨I1.kIn, I1.mod.glob.keeps I1.bk, ⟨mb, h1.keeps I1.bk, h2⟩, I1.nolimit⟩
    obtain ⟨hp, g, dr, tk, os⟩ := s1
    refine wpAny_call (PySem.ErrX.err_made EC IO MO (by have := hr.dp; omega) (fv.ok rv) fun h' tk' e d M => ?_)
    show MkP X pins σ Q (.ref e) ⟨h', g, dr, tk', os⟩
    obtain ⟨oe, fv', hoe, hc, hd, hdat, h1⟩ := M.obj
    have hns := M.ns
    obtain ⟨G', g1, g2⟩ := restrict h' fun b => decide (b ≠ e)
    have gk : ∀ b, b ≠ e → G'.get? b = h'.get? b := fun b hb => g1 b (decide_eq_true hb)
    have ge : G'.get? e = none := g2 e (by simp)
    have old : ∀ b o, hp.get? b = some o → G'.get? b = some o := fun b o q => (gk b (Nat.ne_of_lt (Nat.lt_of_lt_of_le (Heap.lt_size q) M.new))).trans (M.keep b o q)
    have ob : ObjOk X.prog X.w (upd H1 d (.xd [(fld, v)])) G' d (.xd [(fld, v)]) :=
      ⟨_, hns.at (fun o q => (gk d M.dne).trans q), fun f => relO_one rv f⟩
    have J : Inv X pins σ (upd H1 d (.xd [(fld, v)])) ⟨G', g, dr, tk', os⟩ := I1.laid (t' := tk') old M.dbig ob
    refine ⟨e, oe, fv', ⟨G', g, dr, tk', os⟩, _, .ref C, some d, rfl, J, fun b o q => ?_, ge, hoe, ⟨hc, hd⟩, hdat, h1, ?_, rfl, I1.bare, raises_own EC.exC EC.tyC, q1 d (I1.hok.fresh M.dbig)⟩
    · by_cases hb : b = e
      · have q' : G'.get? b = some o := q
        rw [hb, ge] at q'; cases q'
      · exact (gk b hb).symm.trans q
    · rw [upd_ne (Ne.symm M.dne)]
      exact I1.hok.fresh M.new
/-- raise X(e) -/
def tRaiseErr (C : Addr) (fld : Str) (W : WX) (ta : TA) : TS := fun _ σ H => tMkErr C fld ta σ H fun cls d H' => W cls d σ H'
theorem ps_raiseErr {a : Expr} {ta : TA} {W : WX} {p pos pos2 : Pos} {k : Nat} (hc : X.calm = true) (EC : ErrC X.K X.mg x C) (IO : IniOk X.prog X.w X.K X.mg C fI fld) (hr : Room k X.A) (tk : Takes X W) (ha : PA X [a] ta) (hg : Gl X x := by rfl) (hdb : (x == ("__debug__" : Str)) = false := by decide)
    (he : starEach (a :: []) X.env = (false, eval a X.env) :: starEach [] X.env := by rfl) (hpl : (backTo pos (starEach [] X.env)).any (·.1) = false := by rfl) :
    PS X (.Raise (some (.Call (.Name x p) [a] [] pos)) none pos2) (tRaiseErr C fld W ta) := ps_raise hc tk (pmk_err EC IO hr ha hg hdb he hpl)
/-- e.f of a caught error -/
theorem ErrC.xf {K : PySem.W.Frag} {mg : Str → Option Value} (EC : ErrC K mg x C) : XfC K C := ⟨EC.ga, EC.gg, EC.exC, EC.hdC⟩
end
end E1

namespace E1
open PySem PySem.Spec PyProof.Rows L2
open PySem.ErrX (ErrC IniOk FmtOk)
/-- isinstance(e, c), e the error that the suite holds, its class an own one -/
def rIsX (K : PySem.W.Frag) (a : Addr) (cls : Value) (d : Option Addr) : List V → Hp → VK → Prop := fun xs H Q => ∃ (D : Addr) (c : V) (cv : Value) (b : Bool), cls = .ref D ∧ ExcC K D ∧ xs = [.ref a, c] ∧ (∀ u, RelV c u → u = cv) ∧
  (∀ dd, d = some dd → ∃ fs, H dd = some (.xd fs)) ∧ PySem.W.kitOne K (.ref D) cv = some b ∧ Q (.bl b) H
theorem call_isX {X : Cx} {a : Addr} {cls : Value} {d : Option Addr} {oe : Obj} {pn : List (Addr × Obj)} (hz : Zc cls d oe) (hf : ∃ vs, oe.data = .fields vs) : CallR (X.suite a ((a, oe) :: pn)) (.builtin "isinstance") (rIsX X.K a cls d) := by
  intro pins s σ H xs us Q I r ⟨D, c, cv, b, hcls, C, hxs, only, hdd, yes, q⟩
  subst hcls hxs
  match d, hz, hdd, us, r with
  | none, hz, _, us, r => exact call_isE C hz hf pins s σ H _ us Q I r ⟨c, cv, b, rfl, only, yes, q⟩
  | some dd, ⟨kind, own⟩, hdd, [x, u], .cons hx (.cons hu .nil) =>
    cases hx
    cases only u hu
    obtain ⟨fs, tracked⟩ := hdd dd rfl
    obtain ⟨m, space, _⟩ := show ObjOk X.prog X.w H s.heap dd (.xd fs) from I.hok dd _ tracked
    obtain ⟨dict, lies, _⟩ := lookIn_ns space
    obtain ⟨parts, hparts⟩ := hf
    have held := (I.pin (a, oe) (by simp)).1
    have inst : PySem.W.InstAt s.heap a oe D (some dict) := by
      refine ⟨held, kind, ?_, ?_⟩
      · obtain ⟨_, _, dat, _⟩ := oe
        dsimp only at hparts ⊢
        rw [hparts]
        rfl
      · simpa [own] using lies
    have known : (PySem.W.clsIn X.K D).isSome = true := Option.isSome_iff_exists.mpr ((PySem.W.any_some C.hd).imp fun _ z => z.1)
    exact PySem.W.kia_one (PySem.W.kitx_exc known C.hg C.hk C.hs C.ha C.hn C.ht C.hm) I.kIn inst yes (fun z => nomatch z) fun tk => ⟨.bl b, H, I.kept (t' := tk) fun _ _ z => z, rfl, q⟩
/-! ### calls of defs that may raise -/
def CalX (P : Program) (w : World) (K : PySem.W.Frag) (mg : Str → Option Value) (base : Heap) (k : Nat) (x : Str) (ps : List Str) (dvs : List V) (sp : Sp) : Prop :=
  ∃ (f : Addr) (fd : FuncData) (ds : List Value), mg x = some (.ref f) ∧ PySem.W.keepIn K (.ref f) = true ∧ Vals dvs ds ∧ Binds K fd ps ds ∧ FnOk P w K mg base (L2.CX P w) k f fd ps sp
theorem pe_calx {X : Cx} {k j : Nat} {x : Str} {ps : List Str} {dvs : List V} {sp : Sp} {e : Expr} {es : List Expr} {t : TA} {p pos : Pos} (c : CalX X.prog X.w X.K X.mg X.base k x ps dvs sp) (hr : Room j X.A) (ha : PA X (e :: es) t) (hle : k ≤ j := by decide) (hg : Gl X x := by rfl)
    (hdb : (x == ("__debug__" : Str)) = false := by decide) (he : starEach (e :: es) X.env = (false, eval e X.env) :: starEach es X.env := by rfl) (hpl : (backTo pos (starEach es X.env)).any (·.1) = false := by rfl) :
    PE X (.Call (.Name x p) (e :: es) [] pos) (tCall sp dvs E0 t) := by
  obtain ⟨f, fd, ds, h1, h2, hd, h3, h4⟩ := c
  exact pe_call h4 (hr.mono hle) hg h1 h2 h3 hd passL ha hdb he hpl
def CalXK (P : Program) (w : World) (K : PySem.W.Frag) (mg : Str → Option Value) (base : Heap) (k : Nat) (x : Str) (ps : List Str) (n : Nat) (ks : List Str) (gV : List V → List V → List V) (sp : Sp) : Prop :=
  ∃ (f : Addr) (fd : FuncData) (g : List Value → List Value → List Value), mg x = some (.ref f) ∧ PySem.W.keepIn K (.ref f) = true ∧ KBn K fd ps n ks g gV ∧ FnOk P w K mg base (L2.CX P w) k f fd ps sp
theorem pe_calkx0 {X : Cx} {k j : Nat} {x : Str} {ps ks : List Str} {gV : List V → List V → List V} {sp : Sp} {kws : List Keyword} {tk : TA} {p pos : Pos} (c : CalXK X.prog X.w X.K X.mg X.base k x ps 0 ks gV sp) (hr : Room j X.A)
    (hkw : PK X kws tk) (hle : k ≤ j := by decide) (hg : Gl X x := by rfl) (hall : (backToKw pos (keywordEach kws X.env)).all (·.1.isSome) = true := by rfl) (hks : (backToKw pos (keywordEach kws X.env)).filterMap (·.1) = ks := by rfl)
    (hdb : (x == ("__debug__" : Str)) = false := by decide)
    (hpl : ((backTo pos (starEach [] X.env)).any (·.1) || (backToKw pos (keywordEach kws X.env)).any (·.1.isNone)) = false := by rfl) :
    PE X (.Call (.Name x p) [] kws pos) (tCallN 0 ks.length sp gV E0 tNil tk) := by
  obtain ⟨f, fd, g, h1, h2, h3, h4⟩ := c
  refine ⟨fun pins s σ H Q I h => ?_⟩
  refine wpAny_Call_Name_kw (ld_glob I hg h1 ?_ hdb)
  refine PySem.W.callWith_KW0 (h₀ := X.base) I.ok.mod.kin h2 hall (thn (hkw.run pos pins s σ H _ I h) fun ws s2 ⟨zs, H2, I2, rz, l1, l2, q2⟩ => ⟨I2.kIn, ?_⟩) hpl
  rw [hks]
  exact run_fnN (vs := []) (us := []) h4 (hr.mono hle) h3 passL I2 .nil rz l1 l2 q2
/-- a call whose error a try around it waits for -/
theorem pe_calxS {X : Cx} {k j : Nat} {x : Str} {ps : List Str} {sp : Sp} {e : Expr} {es : List Expr} {t : TA} {p pos : Pos} {W : WX} (c : CalX X.prog X.w X.K X.mg X.base k x ps [] sp) (hr : Room j X.A) (tk : Takes X W) (ha : PA X (e :: es) t) (hle : k ≤ j := by decide) (hg : Gl X x := by rfl)
    (hdb : (x == ("__debug__" : Str)) = false := by decide) (he : starEach (e :: es) X.env = (false, eval e X.env) :: starEach es X.env := by rfl) (hpl : (backTo pos (starEach es X.env)).any (·.1) = false := by rfl) :
    PE X (.Call (.Name x p) (e :: es) [] pos) (tCallS sp (WE W) t) := by
  obtain ⟨f, fd, ds, h1, h2, hd, h3, h4⟩ := c
  cases hd
  exact pe_callS h4 (hr.mono hle) hg h1 h2 h3 (fun σ => passAt tk σ) ha hdb he hpl
end E1

namespace E1
open PySem PySem.Spec PyProof.Rows L2
/-! ### a def of the text that is called by its name -/
def Cal (P : Program) (w : World) (K : PySem.W.Frag) (mg : Str → Option Value) (base : Heap) (k : Nat) (x : Str) (ps : List Str) (sp : Sp) : Prop :=
  ∃ (f : Addr) (fd : FuncData), mg x = some (.ref f) ∧ PySem.W.keepIn K (.ref f) = true ∧ Binds K fd ps [] ∧ FnOk P w K mg base CX0 k f fd ps sp
theorem pe_cal {X : Cx} {k j : Nat} {x : Str} {ps : List Str} {sp : Sp} {e : Expr} {es : List Expr} {t : TA} {p pos : Pos} (c : Cal X.prog X.w X.K X.mg X.base k x ps sp) (hr : Room j X.A) (ha : PA X (e :: es) t) (hle : k ≤ j := by decide) (hg : Gl X x := by rfl)
    (hdb : (x == ("__debug__" : Str)) = false := by decide) (he : starEach (e :: es) X.env = (false, eval e X.env) :: starEach es X.env := by rfl) (hpl : (backTo pos (starEach es X.env)).any (·.1) = false := by rfl) :
    PE X (.Call (.Name x p) (e :: es) [] pos) (tCall sp [] E0 t) := by
  obtain ⟨f, fd, h1, h2, h3, h4⟩ := c
  exact pe_call h4 (hr.mono hle) hg h1 h2 h3 .nil pass0 ha hdb he hpl
/-! ### heaps -/
def SameBut (a : Addr) (H H' : Hp) : Prop := ∀ b o, b ≠ a → H b = some o → H' b = some o
theorem SameBut.refl (a : Addr) (H : Hp) : SameBut a H H := fun _ _ _ h => h
theorem SameBut.trans {a : Addr} {H H1 H2 : Hp} (x : SameBut a H H1) (y : SameBut a H1 H2) : SameBut a H H2 := fun b o n h => y b o n (x b o n h)
theorem SameBut.of {a : Addr} {H H' : Hp} (s : Same H H') : SameBut a H H' := fun b o _ h => s b o h
theorem SameBut.upd {a : Addr} {H : Hp} {o : HO} : SameBut a H (upd H a o) := fun b _ n h => by
  rw [upd_ne n]
  exact h
theorem same_new {H : Hp} {p : Addr} {o : HO} (h : H p = none) : Same H (upd H p o) := fun b x e => by
  rw [upd_ne (ne_of_none e h)]
  exact e
theorem Same.tup {K : PySem.W.Frag} {H H' : Hp} {a : Addr} {xs : List V} (e : Same H H') (h : SqT K H a xs) : SqT K H' a xs := by
  rcases h with (h | ⟨o, h⟩) | h
  · exact .inl (.inl (e _ _ h))
  · exact .inl (.inr ⟨o, e _ _ h⟩)
  · exact .inr h
theorem a0 {α : Type} {x : α} {l : List α} : atI (x :: l) 0 = some x := atI_nat (j := 0) rfl
theorem a1 {α : Type} {x y : α} {l : List α} : atI (x :: y :: l) 1 = some y := atI_nat (j := 1) rfl
theorem a2 {α : Type} {x y z : α} {l : List α} : atI (x :: y :: z :: l) 2 = some z := atI_nat (j := 2) rfl
theorem toB {p : Prop} [Decidable p] (h : decide p = true) : p := of_decide_eq_true h
theorem toNB {p : Prop} [Decidable p] (h : ¬ decide p = true) : ¬ p := fun z => h (decide_eq_true z)
/-- a well: the digits left, a number that is mixed, how many were mixed (at most c) -/
def WellAt (H : Hp) (a : Addr) (c : Int) : Prop := ∃ x y z : Int, H a = some (.lst [.int x, .int y, .int z]) ∧ 0 ≤ y ∧ y < 2147483647 ∧ 0 ≤ z ∧ z ≤ c
theorem WellAt.mono {H : Hp} {a : Addr} {c d : Int} (h : WellAt H a c) (l : c ≤ d) : WellAt H a d := by
  obtain ⟨x, y, z, e, h1, h2, h3, h4⟩ := h
  exact ⟨x, y, z, e, h1, h2, h3, by omega⟩
theorem WellAt.same {H H' : Hp} {a : Addr} {c : Int} (h : WellAt H a c) (s : Same H H') : WellAt H' a c := by
  obtain ⟨x, y, z, e, h1, h2, h3, h4⟩ := h
  exact ⟨x, y, z, s _ _ e, h1, h2, h3, h4⟩
theorem WellAt.but {H H' : Hp} {a b : Addr} {c : Int} (h : WellAt H a c) (s : SameBut b H H') (n : a ≠ b) : WellAt H' a c := by
  obtain ⟨x, y, z, e, h1, h2, h3, h4⟩ := h
  exact ⟨x, y, z, s _ _ n e, h1, h2, h3, h4⟩
/-! ### promises of the law's helpers -/
def spCell (K : PySem.W.Frag) : Sp := fun vs H Q _ => ∃ (a : Addr) (ns : List Int) (k : Nat), vs = [.ref a, .int k] ∧ SqL K H a (ns.map V.int) ∧ Q (.int (ns.getD k 0)) H
def spWell : Sp := fun vs H Q _ => ∃ c : Int, vs = [.int c] ∧ ∀ p : Addr, H p = none → ∀ H', Same H H' → WellAt H' p 0 → Q (.ref p) H'
/-- a number from 0 to below m; the well has at most one more -/
def spDraw : Sp := fun vs H Q _ => ∃ (a : Addr) (c m : Int), vs = [.ref a, .int m] ∧ WellAt H a c ∧ c ≤ 1000000000 ∧ 0 < m ∧ m.natAbs < 2 ^ 9000 ∧
  ∀ (r : Int) (H' : Hp), 0 ≤ r → r < m → SameBut a H H' → (∀ b, H b = none → H' b = none) → WellAt H' a (c + 1) → Q (.int r) H'
def topS (i : Nat) : Stmt := PySem.Challenge.pw_echobound_k91_forms_as_texts.main.body.getD i (.Pass ⟨0, 0, 0, 0⟩)
abbrev s__wall : Stmt := topS 0
abbrev s_is_whole : Stmt := topS 8
abbrev s_downward : Stmt := topS 10
abbrev s_upward : Stmt := topS 11
abbrev s_inward : Stmt := topS 12
abbrev s_outward : Stmt := topS 13
abbrev s_nearest_greater : Stmt := topS 14
abbrev s_nearest_even : Stmt := topS 15
abbrev s_nearest_far : Stmt := topS 16
abbrev s_is_manner : Stmt := topS 18
abbrev s_is_width : Stmt := topS 24
abbrev s_is_point : Stmt := topS 25
abbrev s_is_ends : Stmt := topS 26
abbrev s_whole_of : Stmt := topS 32
abbrev s_show_form : Stmt := topS 33
abbrev s_check_text : Stmt := topS 34
abbrev s_form_of : Stmt := topS 35
abbrev s_read_form : Stmt := topS 36
abbrev s__law_cell_at : Stmt := topS 38
abbrev s__law_well : Stmt := topS 39
abbrev s__law_draw : Stmt := topS 40
abbrev s__law_parts : Stmt := topS 41
abbrev s__law_text : Stmt := topS 42
abbrev s__law_number : Stmt := topS 43
abbrev s__law_read : Stmt := topS 44
abbrev s__law_spoilt : Stmt := topS 45
abbrev s__law_told : Stmt := topS 46
abbrev s__law_right : Stmt := topS 47
abbrev s_law : Stmt := topS 48
section
variable {P : Program} {w : World} {K : PySem.W.Frag} {mg : Str → Option Value} {base : Heap}
theorem sc__law_cell_at : FnScope ["_law_script", "_law_k"] ["_law_script", "_law_k"] (defScope s__law_cell_at) := ⟨rfl, rfl, rfl, by decide +kernel, rfl, by decide +kernel, by decide +kernel⟩
theorem sc__law_well : FnScope ["_law_cell"] ["_law_cell"] (defScope s__law_well) := ⟨rfl, rfl, rfl, by decide +kernel, rfl, by decide +kernel, by decide +kernel⟩
theorem sc__law_draw : FnScope ["_law_well_here", "_law_many", "_law_found", "_law_number_here"] ["_law_well_here", "_law_many"] (defScope s__law_draw) := ⟨rfl, rfl, rfl, by decide +kernel, rfl, by decide +kernel, by decide +kernel⟩
theorem ok_cell {f : Addr} {fd : FuncData} {k : Nat} (F : Fun K "_law_cell_at" "_law_cell_at" s__law_cell_at f fd) (zl : mg "len" = none) : FnOk P w K mg base CX0 (k + 1) f fd ["_law_script", "_law_k"] (spCell K) := by
  refine F.ok sc__law_cell_at (fun vs H Q E h => ?_) (fun cdv A outer s H vs Q E hr h => ?_)
  · obtain ⟨a, ns, k, rfl, _⟩ := h
    rfl
  · obtain ⟨a, ns, k, rfl, hS, q⟩ := h
    refine ⟨_, (pss_cons (ps_if (pt_cmpR op_lt (pv 1) (pe_callB call_len_seq (by rfl) zl PySem.boot_len (pa_cons (pv 0) pa_nil)) (nomark _)) (pss_one (ps_ret (pe_ix ix_list (pv 0) (pv 1) (fun _ _ => rfl)))) pss_nil)
      (pss_one (ps_ret pe_int))), ?_⟩
    refine ⟨_, rfl, _, rfl, a, _, rfl, .inl hS, _, _, rfl, rfl, _, rfl, ite2 (fun c => ?_) (fun c => ?_)⟩
    · have hk : k < ns.length := by
        have := toB c
        rw [List.length_map] at this
        omega
      refine ⟨_, rfl, _, rfl, a, _, k, .int (ns.getD k 0), rfl, rfl, hS, atI_nat ?_, q⟩
      rw [List.getElem?_map, List.getElem?_eq_getElem hk, List.getD_eq_getElem?_getD, List.getElem?_eq_getElem hk]
      rfl
    · have hk : ¬ k < ns.length := fun z => by
        have := toNB c
        rw [List.length_map] at this
        omega
      have e : ns.getD k 0 = 0 := by
        rw [List.getD_eq_getElem?_getD, List.getElem?_eq_none (by omega)]
        rfl
      rw [e] at q
      exact q
theorem ok_well {f : Addr} {fd : FuncData} {k : Nat} (F : Fun K "_law_well" "_law_well" s__law_well f fd) (zi : mg "int" = none) : FnOk P w K mg base CX0 (k + 1) f fd ["_law_cell"] spWell := by
  refine F.ok sc__law_well (fun vs H Q E h => ?_) (fun cdv A outer s H vs Q E hr h => ?_)
  · obtain ⟨c, rfl, _⟩ := h
    rfl
  · obtain ⟨c, rfl, q⟩ := h
    refine ⟨_, (pss_one (ps_ret (pe_lst (pa_cons (pe_op op_mul (pv 0) (pe_callTy call_int1 (by rfl) zi (by decide +kernel) (pa_cons (pe_cmpR op_ge (pv 0) (pe_op op_pow pe_int pe_int) (nomark _)) pa_nil))) (pa_cons (pe_op op_mod (pv 0) pe_int) (pa_cons pe_int pa_nil)))))), ?_⟩
    refine ⟨_, rfl, _, rfl, _, _, rfl, rfl, ⟨by decide, by decide, by decide⟩, _, _, rfl, rfl, .inr ⟨_, rfl, _, _, rfl, rfl, .inr ?_, ?_⟩⟩
    · split <;> decide
    · refine ⟨_, rfl, _, _, rfl, rfl, (by show (0 : Int) < 2147483647; decide), (by show 3 ≤ sizeLine; decide), fun p hp => ?_⟩
      exact q p hp _ (same_new hp) ⟨_, _, _, upd_same, Int.emod_nonneg _ (by decide), Int.emod_lt_of_pos _ (by decide), Int.le_refl _, Int.le_refl _⟩
theorem ok_draw {f : Addr} {fd : FuncData} {k : Nat} (F : Fun K "_law_draw" "_law_draw" s__law_draw f fd) : FnOk P w K mg base CX0 (k + 1) f fd ["_law_well_here", "_law_many"] spDraw := by
  refine F.ok sc__law_draw (fun vs H Q E h => ?_) (fun cdv A outer s H vs Q E hr h => ?_)
  · obtain ⟨a, c, m, rfl, _⟩ := h
    rfl
  · obtain ⟨a, c, m, rfl, ⟨x, y, z, hw, y0, y1, z0, z1⟩, hc, m0, m1, q⟩ := h
    have fr : ∀ o b, H b = none → (upd H a o) b = none := fun o b hb => by
      rw [upd_ne (fun e => by rw [e, hw] at hb; cases hb)]
      exact hb
    refine ⟨_, (pss_cons (ps_if (pt_cmpR op_gt (pe_ix ix_list (pv 0) pe_int (fun _ _ => rfl)) pe_int (nomark _)) (pss_cons (ps_set (i := 2) sc__law_draw.nd rfl (.inl rfl) (pe_op op_mod (pe_ix ix_list (pv 0) pe_int (fun _ _ => rfl)) (pv 1)))
      (pss_cons (ps_asg (pe_op op_fdivW (pe_ix ix_list (pv 0) pe_int (fun _ _ => rfl)) (pv 1)) (pg_sub (pv 0) pe_int set_list))
      (pss_one (ps_ret (pv 2))))) pss_nil)
      (pss_cons (ps_asg (pe_op op_add (pe_ix ix_list (pv 0) pe_int (fun _ _ => rfl)) pe_int) (pg_sub (pv 0) pe_int set_list))
      (pss_cons (ps_set (i := 3) sc__law_draw.nd rfl (.inl rfl) (pe_op op_mod (pe_op op_pow (pe_op op_add (pe_op op_add (pe_ix ix_list (pv 0) pe_int (fun _ _ => rfl)) (pe_op op_mul pe_int (pe_ix ix_list (pv 0) pe_int (fun _ _ => rfl)))) pe_int) pe_int) pe_int))
      (pss_cons (ps_set (i := 3) sc__law_draw.nd rfl (.inl rfl) (pe_op op_mod (pe_op op_mul (pv 3) (pe_op op_add (pe_op op_fdiv (pv 3) pe_int) pe_int)) pe_int))
      (pss_one (ps_ret (pe_op op_mod (pe_op op_mod (pe_op op_mul (pv 3) (pe_op op_add (pe_op op_fdiv (pv 3) pe_int) pe_int)) pe_int) (pv 1)))))))), ?_⟩
    refine ⟨_, rfl, a, _, 0, .int x, rfl, rfl, SqL.of hw, a0, x, 0, rfl, rfl, _, rfl, ite2 (fun c => ?_) (fun c => ?_)⟩
    · refine ⟨_, rfl, a, _, 0, .int x, rfl, rfl, SqL.of hw, a0, _, rfl, x, m, rfl, rfl, m0, ?_⟩
      refine ⟨_, rfl, a, _, 0, .int x, rfl, rfl, SqL.of hw, a0, _, rfl, x, m, rfl, rfl, wide_div m0 m1 (by decide) (Nat.le_refl _), _, rfl, a, _, 0, 0, rfl, rfl, hw, rfl, ?_⟩
      refine ⟨_, rfl, q _ _ (Int.emod_nonneg _ (by omega)) (Int.emod_lt_of_pos _ m0) SameBut.upd (fr _) ⟨_, _, _, upd_same, y0, y1, z0, by omega⟩⟩
    · refine ⟨_, rfl, a, _, 2, .int z, rfl, rfl, SqL.of hw, a2, z, 1, rfl, rfl, _, rfl, a, _, 2, 2, rfl, rfl, hw, rfl, ?_⟩
      have hw2 : (upd H a (.lst [V.int x, V.int y, V.int (z + 1)])) a = some (.lst [V.int x, V.int y, V.int (z + 1)]) := upd_same
      have n5 : 0 ≤ y + 7919 * (z + 1) + 1 ∧ y + 7919 * (z + 1) + 1 < 18446744073709551616 := by omega
      refine ⟨_, rfl, a, _, 1, .int y, rfl, rfl, SqL.of hw2, a1, _, rfl, a, _, 2, .int (z + 1), rfl, rfl, SqL.of hw2, a2, _, _, rfl, rfl, .inl ⟨by decide, by decide⟩, _, _, rfl, rfl, _, _, rfl, rfl, _, _, rfl, rfl, ⟨by decide, by decide, ?_⟩, _, _, rfl, rfl, (by show (0 : Int) < 2147483647; decide), ?_⟩
      · show (y + 7919 * (z + 1) + 1).natAbs < 18446744073709551616
        omega
      · generalize hn : (y + 7919 * (z + 1) + 1) ^ (5 : Int).toNat % 2147483647 = n
        have n0 : 0 ≤ n := by rw [← hn]; exact Int.emod_nonneg _ (by decide)
        have n1 : n < 2147483647 := by rw [← hn]; exact Int.emod_lt_of_pos _ (by decide)
        refine ⟨_, rfl, _, rfl, _, _, rfl, rfl, ⟨by decide, by decide⟩, _, _, rfl, rfl, _, _, rfl, rfl, .inl ⟨by omega, by omega⟩, _, _, rfl, rfl, (by show (0 : Int) < 2147483629; decide), ?_⟩
        generalize hm : n * (n / 1009 + 69621) % 2147483629 = u
        have u0 : 0 ≤ u := by rw [← hm]; exact Int.emod_nonneg _ (by decide)
        have u1 : u < 2147483629 := by rw [← hm]; exact Int.emod_lt_of_pos _ (by decide)
        refine ⟨_, rfl, _, rfl, _, _, rfl, rfl, ⟨by decide, by decide⟩, _, _, rfl, rfl, _, _, rfl, rfl, .inl ⟨by omega, by omega⟩, _, _, rfl, rfl, (by show (0 : Int) < 2147483587; decide), _, rfl, _, _, rfl, rfl, m0, ?_⟩
        exact q _ _ (Int.emod_nonneg _ (by omega)) (Int.emod_lt_of_pos _ m0) SameBut.upd (fr _) ⟨_, _, _, upd_same, y0, y1, by omega, by omega⟩
end
end E1

namespace E1
open PySem PySem.Spec PyProof.Rows L2

def CalD (P : Program) (w : World) (K : PySem.W.Frag) (mg : Str → Option Value) (base : Heap) (k : Nat) (x : Str) (ps : List Str) (dvs : List V) (sp : Sp) : Prop :=
  ∃ (f : Addr) (fd : FuncData) (ds : List Value), mg x = some (.ref f) ∧ PySem.W.keepIn K (.ref f) = true ∧ Vals dvs ds ∧ Binds K fd ps ds ∧ FnOk P w K mg base CX0 k f fd ps sp
theorem pe_cald {X : Cx} {k j : Nat} {x : Str} {ps : List Str} {dvs : List V} {sp : Sp} {e : Expr} {es : List Expr} {t : TA} {p pos : Pos} (c : CalD X.prog X.w X.K X.mg X.base k x ps dvs sp) (hr : Room j X.A) (ha : PA X (e :: es) t) (hle : k ≤ j := by decide) (hg : Gl X x := by rfl)
    (hdb : (x == ("__debug__" : Str)) = false := by decide) (he : starEach (e :: es) X.env = (false, eval e X.env) :: starEach es X.env := by rfl) (hpl : (backTo pos (starEach es X.env)).any (·.1) = false := by rfl) :
    PE X (.Call (.Name x p) (e :: es) [] pos) (tCall sp dvs E0 t) := by
  obtain ⟨f, fd, ds, h1, h2, hd, h3, h4⟩ := c
  exact pe_call h4 (hr.mono hle) hg h1 h2 h3 hd pass0 ha hdb he hpl
def CalK (P : Program) (w : World) (K : PySem.W.Frag) (mg : Str → Option Value) (base : Heap) (k : Nat) (x : Str) (ps : List Str) (n : Nat) (ks : List Str) (gV : List V → List V → List V) (sp : Sp) : Prop :=
  ∃ (f : Addr) (fd : FuncData) (g : List Value → List Value → List Value), mg x = some (.ref f) ∧ PySem.W.keepIn K (.ref f) = true ∧ KBn K fd ps n ks g gV ∧ FnOk P w K mg base CX0 k f fd ps sp
theorem pe_calk {X : Cx} {k j n : Nat} {x : Str} {ps ks : List Str} {gV : List V → List V → List V} {sp : Sp} {e : Expr} {es : List Expr} {kws : List Keyword} {t tk : TA} {p pos : Pos} (c : CalK X.prog X.w X.K X.mg X.base k x ps n ks gV sp) (hr : Room j X.A)
    (ha : PA X (e :: es) t) (hkw : PK X kws tk) (hle : k ≤ j := by decide) (hg : Gl X x := by rfl) (hall : (backToKw pos (keywordEach kws X.env)).all (·.1.isSome) = true := by rfl) (hks : (backToKw pos (keywordEach kws X.env)).filterMap (·.1) = ks := by rfl)
    (hdb : (x == ("__debug__" : Str)) = false := by decide) (he : starEach (e :: es) X.env = (false, eval e X.env) :: starEach es X.env := by rfl)
    (hpl : ((backTo pos (starEach (e :: es) X.env)).any (·.1) || (backToKw pos (keywordEach kws X.env)).any (·.1.isNone)) = false := by rfl) :
    PE X (.Call (.Name x p) (e :: es) kws pos) (tCallN n ks.length sp gV E0 t tk) := by
  obtain ⟨f, fd, g, h1, h2, h3, h4⟩ := c
  exact pe_callN h4 (hr.mono hle) hg h1 h2 h3 pass0 ha hkw hall hks hdb he hpl
theorem pe_calk0 {X : Cx} {k j : Nat} {x : Str} {ps ks : List Str} {gV : List V → List V → List V} {sp : Sp} {kws : List Keyword} {tk : TA} {p pos : Pos} (c : CalK X.prog X.w X.K X.mg X.base k x ps 0 ks gV sp) (hr : Room j X.A)
    (hkw : PK X kws tk) (hle : k ≤ j := by decide) (hg : Gl X x := by rfl) (hall : (backToKw pos (keywordEach kws X.env)).all (·.1.isSome) = true := by rfl) (hks : (backToKw pos (keywordEach kws X.env)).filterMap (·.1) = ks := by rfl)
    (hdb : (x == ("__debug__" : Str)) = false := by decide)
    (hpl : ((backTo pos (starEach [] X.env)).any (·.1) || (backToKw pos (keywordEach kws X.env)).any (·.1.isNone)) = false := by rfl) :
    PE X (.Call (.Name x p) [] kws pos) (tCallN 0 ks.length sp gV E0 tNil tk) := by
  obtain ⟨f, fd, g, h1, h2, h3, h4⟩ := c
  refine ⟨fun pins s σ H Q I h => ?_⟩
  refine wpAny_Call_Name_kw (ld_glob I hg h1 ?_ hdb)
  refine PySem.W.callWith_KW0 (h₀ := X.base) I.ok.mod.kin h2 hall (thn (hkw.run pos pins s σ H _ I h) fun ws s2 ⟨zs, H2, I2, rz, l1, l2, q2⟩ => ⟨I2.kIn, ?_⟩) hpl
  rw [hks]
  exact run_fnN (vs := []) (us := []) h4 (hr.mono hle) h3 pass0 I2 .nil rz l1 l2 q2
/-- a class handed to isinstance -/
theorem isiB {K : PySem.W.Frag} {H : Hp} {x : V} {a b : String} {r : Bool} {Q : VK} (ty : TyX K H x (.type a)) (k : kitB a b = some r) (q : Q (.bl r) H) : rIsi K [x, .ty b] H Q :=
  ⟨x, .ty b, .type a, .type b, r, rfl, .ty _, ty, kit_ty k, q⟩
/-- whether a thing is a whole number -/
def WholeIs (K : PySem.W.Frag) (H : Hp) (x : V) (b : Bool) : Prop := (∃ i, x = .int i ∧ b = true) ∨ (∃ c, x = .bl c ∧ b = false) ∨ (b = false ∧ ∃ t : String, TyX K H x (.type t) ∧ kitB t "int" = some false)
theorem WholeIs.int {K : PySem.W.Frag} {H : Hp} (i : Int) : WholeIs K H (.int i) true := .inl ⟨i, rfl, rfl⟩
def spWhole (K : PySem.W.Frag) : Sp := fun vs H Q _ => ∃ (x : V) (b : Bool), vs = [x] ∧ WholeIs K H x b ∧ Q (.bl b) H
/-! ### the mathematics of fractions in lowest terms -/
def gI (t b : Int) : Int := (Int.gcd t b : Nat)
def lowT (t b : Int) : Int := (if b < 0 then -t else t) / gI t b
def lowB (t b : Int) : Int := (if b < 0 then -b else b) / gI t b
theorem gI_neg (t b : Int) : gI (-t) (-b) = gI t b := by
  unfold gI
  rw [Int.neg_gcd, Int.gcd_neg]
theorem gI_pos {t b : Int} (h : b ≠ 0) : 0 < gI t b := by
  have : 0 < Int.gcd t b := Int.gcd_pos_of_ne_zero_right t h
  unfold gI
  omega
theorem gI_le {t b : Int} (h : b ≠ 0) : (gI t b).natAbs ≤ b.natAbs := by
  have d : Int.gcd t b ∣ b.natAbs := Nat.gcd_dvd_right t.natAbs b.natAbs
  have := Nat.le_of_dvd (by omega) d
  unfold gI
  omega
def spShared : Sp := fun vs H Q _ => ∃ t b : Int, vs = [.int t, .int b] ∧ 0 ≤ b ∧ Q (.int (gI t b)) H
def spLow : Sp := fun vs H Q _ => ∃ t b : Int, vs = [.int t, .int b] ∧ b ≠ 0 ∧ b.natAbs < 2 ^ 4000 ∧ ∀ p, H p = none → Q (.ref p) (upd H p (.tup [.int (lowT t b), .int (lowB t b)]))
/-- two fractions at two places; the tops and bottoms told by f and d -/
def spTwo (K : PySem.W.Frag) (pre : Int → Int → Int → Int → Prop) (f d : Int → Int → Int → Int → Int) : Sp := fun vs H Q _ => ∃ (a c : Addr) (t u v x : Int), vs = [.ref a, .ref c] ∧ SqT K H a [.int t, .int u] ∧ SqT K H c [.int v, .int x] ∧
  pre t u v x ∧ 0 < u ∧ 0 < x ∧ t.natAbs < 2 ^ 1900 ∧ u.natAbs < 2 ^ 1900 ∧ v.natAbs < 2 ^ 1900 ∧ x.natAbs < 2 ^ 1900 ∧ ∀ p, H p = none → Q (.ref p) (upd H p (.tup [.int (lowT (f t u v x) (d t u v x)), .int (lowB (f t u v x) (d t u v x))]))
def spUnder (K : PySem.W.Frag) : Sp := fun vs H Q _ => ∃ (a c : Addr) (t u v x : Int), vs = [.ref a, .ref c] ∧ SqT K H a [.int t, .int u] ∧ SqT K H c [.int v, .int x] ∧
  t.natAbs < 2 ^ 1900 ∧ u.natAbs < 2 ^ 1900 ∧ v.natAbs < 2 ^ 1900 ∧ x.natAbs < 2 ^ 1900 ∧ Q (.bl (decide (t * x < v * u))) H
def absI (t : Int) : Int := if t < 0 then -t else t
def spSize (K : PySem.W.Frag) : Sp := fun vs H Q _ => ∃ (a : Addr) (t u : Int), vs = [.ref a] ∧ SqT K H a [.int t, .int u] ∧ ∀ p, H p = none → Q (.ref p) (upd H p (.tup [.int (absI t), .int u]))
def twoT (m : Int) : Int := if m < 0 then 1 else 2 ^ m.toNat
def twoB (m : Int) : Int := if m < 0 then 2 ^ (-m).toNat else 1
def spTwoTo : Sp := fun vs H Q _ => ∃ m : Int, vs = [.int m] ∧ -400 ≤ m ∧ m ≤ 400 ∧ ∀ p, H p = none → Q (.ref p) (upd H p (.tup [.int (twoT m), .int (twoB m)]))
def spIsFrac : Sp := fun vs H Q _ => ∃ (a : Addr) (t u : Int), vs = [.ref a] ∧ H a = some (.tup [.int t, .int u]) ∧ 1 ≤ u ∧ Q (.bl (decide (gI t u = 1))) H
theorem up {x : Nat} {a b : Nat} (h : x < 2 ^ a) (l : a ≤ b) : x < 2 ^ b := Nat.lt_of_lt_of_le h (Nat.pow_le_pow_right (by decide) l)
theorem iteN {c A B : Prop} [Decidable c] (h1 : ¬ c → A) (h2 : c → B) : if (!decide c) = true then A else B := by
  by_cases h : c
  · rw [decide_eq_true h]
    exact iteF (h2 h)
  · rw [decide_eq_false h]
    exact iteT (h1 h)
theorem Same.free {H H' : Hp} {p : Addr} (s : Same H H') (h : H' p = none) : H p = none := by
  cases e : H p with
  | none => rfl
  | some o =>
    rw [s _ _ e] at h
    cases h
theorem up2 {x y : Nat} {a b : Nat} (h : x ≤ y) (h2 : y < 2 ^ a) (l : a ≤ b) : x < 2 ^ b := Nat.lt_of_le_of_lt h (up h2 l)
theorem same_but {H H1 H2 : Hp} {p : Addr} (s : Same H H1) (b : SameBut p H1 H2) (hp : H p = none) : Same H H2 := fun a o e => b a o (ne_of_none e hp) (s a o e)
structure Zs (mg : Str → Option Value) : Prop where
  isinstance : mg "isinstance" = none
  int : mg "int" = none
  bool : mg "bool" = none
  str : mg "str" = none
  abs : mg "abs" = none
  len : mg "len" = none
  all : mg "all" = none
  range : mg "range" = none
section
variable {P : Program} {w : World} {K : PySem.W.Frag} {mg : Str → Option Value} {base : Heap}
theorem sc_is_whole : FnScope ["thing"] ["thing"] (defScope s_is_whole) := ⟨rfl, rfl, rfl, by decide +kernel, rfl, by decide +kernel, by decide +kernel⟩
theorem ok_is_whole {f : Addr} {fd : FuncData} {k : Nat} (F : Fun K "is_whole" "is_whole" s_is_whole f fd) (z : Zs mg) : FnOk P w K mg base CX0 (k + 1) f fd ["thing"] (spWhole K) := by
  refine F.ok sc_is_whole (fun vs H Q E h => ?_) (fun cdv A outer s H vs Q E hr h => ?_)
  · obtain ⟨x, b, rfl, _⟩ := h
    rfl
  · obtain ⟨x, b, rfl, hw, q⟩ := h
    refine ⟨_, (pss_one (ps_ret (pe_and (pe_callB call_isi (by rfl) z.isinstance (by decide +kernel) (pa_cons (pv 0) (pa_cons (pe_bltn (v := .ty "int") (by rfl) z.int (by decide +kernel) rfl) pa_nil))) (pe_one (pe_not (pe_callB call_isi (by rfl) z.isinstance (by decide +kernel) (pa_cons (pv 0) (pa_cons (pe_bltn (v := .ty "bool") (by rfl) z.bool (by decide +kernel) rfl) pa_nil)))))))), ?_⟩
    rcases hw with ⟨i, rfl, rfl⟩ | ⟨c, rfl, rfl⟩ | ⟨rfl, t, ty, kt⟩
    · exact ⟨_, rfl, _, .ty "int", _, _, true, rfl, .ty _, .base (.int i), kit_ty (by decide +kernel), _, rfl, iteT ⟨_, rfl, _, .ty "bool", _, _, false, rfl, .ty _, .base (.int i), kit_ty (by decide +kernel), _, rfl, q⟩⟩
    · exact ⟨_, rfl, _, .ty "int", _, _, true, rfl, .ty _, .base (.bl c), kit_ty (by decide +kernel), _, rfl, iteT ⟨_, rfl, _, .ty "bool", _, _, true, rfl, .ty _, .base (.bl c), kit_ty (by decide +kernel), _, rfl, q⟩⟩
    · exact ⟨_, rfl, _, .ty "int", _, _, false, rfl, .ty _, ty, kit_ty kt, _, rfl, iteF q⟩
end
end E1

namespace E1
open PySem PySem.Spec PyProof.Rows L2
/-! ### the seven manners -/
inductive Mn where
  | down | up | inn | out | half | even | far
def Mn.str : Mn → Str
  | .down => "down"
  | .up => "up"
  | .inn => "in"
  | .out => "out"
  | .half => "half"
  | .even => "even"
  | .far => "far"
def fDown (t b : Int) : Int := t / b
def fUp (t b : Int) : Int := -(-t / b)
def fHalf (t b : Int) : Int := (2 * t + b) / (2 * b)
def fEven (t b : Int) : Int := if 2 * (fHalf t b * b - t) = b ∧ fHalf t b % 2 ≠ 0 then fHalf t b - 1 else fHalf t b
def fFar (t b : Int) : Int := if t > 0 then fHalf t b else -(fHalf (-t) b)
def fIn (t b : Int) : Int := if t > 0 then fDown t b else fUp t b
def fOut (t b : Int) : Int := if t > 0 then fUp t b else fDown t b
def Mn.f : Mn → Int → Int → Int
  | .down => fDown
  | .up => fUp
  | .inn => fIn
  | .out => fOut
  | .half => fHalf
  | .even => fEven
  | .far => fFar
def lawR (m : Mn) (t b : Int) : Int :=
  match m with
  | .down => t / b
  | .up => if t % b = 0 then t / b else t / b + 1
  | .inn => if t % b = 0 then t / b else t / b + (if t < 0 then 1 else 0)
  | .out => if t % b = 0 then t / b else t / b + (if t > 0 then 1 else 0)
  | .half => if 2 * (t % b) < b then t / b else t / b + 1
  | .even => if 2 * (t % b) < b then t / b else if b < 2 * (t % b) then t / b + 1 else t / b + t / b % 2
  | .far => if 2 * (t % b) < b then t / b else if b < 2 * (t % b) then t / b + 1 else t / b + (if t > 0 then 1 else 0)
theorem div_is {t b q : Int} (hb : 0 < b) (h1 : q * b ≤ t) (h2 : t < q * b + b) : t / b = q := by
  have a1 : q ≤ t / b := Int.le_ediv_of_mul_le hb h1
  have a2 : t / b < q + 1 := Int.ediv_lt_of_lt_mul hb (by rw [Int.add_mul, Int.one_mul]; exact h2)
  omega
theorem dm (t : Int) {b : Int} (hb : 0 < b) : t = t / b * b + t % b ∧ 0 ≤ t % b ∧ t % b < b := by
  refine ⟨?_, Int.emod_nonneg _ (by omega), Int.emod_lt_of_pos _ hb⟩
  have := Int.mul_ediv_add_emod t b
  rw [Int.mul_comm] at this
  omega
theorem fUp_is {t b : Int} (hb : 0 < b) : fUp t b = if t % b = 0 then t / b else t / b + 1 := by
  obtain ⟨e, r0, r1⟩ := dm t hb
  unfold fUp
  generalize t / b = q at *
  generalize t % b = r at *
  split
  · rename_i h
    have := div_is (t := -t) (q := -q) hb (by rw [Int.neg_mul]; omega) (by rw [Int.neg_mul]; omega)
    rw [this]
    omega
  · rename_i h
    have := div_is (t := -t) (q := -q - 1) hb (by rw [Int.sub_mul, Int.neg_mul, Int.one_mul]; omega) (by rw [Int.sub_mul, Int.neg_mul, Int.one_mul]; omega)
    rw [this]
    omega
theorem fHalf_is {t b : Int} (hb : 0 < b) : fHalf t b = if 2 * (t % b) < b then t / b else t / b + 1 := by
  obtain ⟨e, r0, r1⟩ := dm t hb
  unfold fHalf
  generalize t / b = q at *
  generalize t % b = r at *
  have e2 : q * (2 * b) = 2 * (q * b) := Int.mul_left_comm q 2 b
  split
  · rename_i h
    exact div_is (by omega) (by rw [e2]; omega) (by rw [e2]; omega)
  · rename_i h
    exact div_is (by omega) (by rw [Int.add_mul, e2, Int.one_mul]; omega) (by rw [Int.add_mul, e2, Int.one_mul]; omega)
theorem fHalf_neg {t b : Int} (hb : 0 < b) : -(fHalf (-t) b) = if b < 2 * (t % b) then t / b + 1 else t / b := by
  obtain ⟨e, r0, r1⟩ := dm t hb
  unfold fHalf
  generalize t / b = q at *
  generalize t % b = r at *
  have e2 : q * (2 * b) = 2 * (q * b) := Int.mul_left_comm q 2 b
  split
  · rename_i h
    have := div_is (t := 2 * -t + b) (b := 2 * b) (q := -q - 1) (by omega) (by rw [Int.sub_mul, Int.neg_mul, e2, Int.one_mul]; omega) (by rw [Int.sub_mul, Int.neg_mul, e2, Int.one_mul]; omega)
    rw [this]
    omega
  · rename_i h
    have := div_is (t := 2 * -t + b) (b := 2 * b) (q := -q) (by omega) (by rw [Int.neg_mul, e2]; omega) (by rw [Int.neg_mul, e2]; omega)
    rw [this]
    omega
theorem fEven_is {t b : Int} (hb : 0 < b) : fEven t b = lawR .even t b := by
  obtain ⟨e, r0, r1⟩ := dm t hb
  unfold fEven
  rw [fHalf_is hb]
  show _ = if 2 * (t % b) < b then t / b else if b < 2 * (t % b) then t / b + 1 else t / b + t / b % 2
  generalize t / b = q at *
  generalize t % b = r at *
  by_cases h : 2 * r < b
  · rw [if_pos h, if_pos h, if_neg (by intro z; omega)]
  · rw [if_neg h, if_neg h, Int.add_mul, Int.one_mul]
    by_cases h2 : b < 2 * r
    · rw [if_pos h2, if_neg (by intro z; omega)]
    · rw [if_neg h2]
      by_cases h3 : (q + 1) % 2 ≠ 0
      · rw [if_pos ⟨by omega, h3⟩]
        omega
      · rw [if_neg (fun z => h3 z.2)]
        omega
theorem f_lawR (m : Mn) {t b : Int} (hb : 0 < b) : m.f t b = lawR m t b := by
  obtain ⟨e, r0, r1⟩ := dm t hb
  cases m with
  | down => rfl
  | up => exact fUp_is hb
  | inn =>
    show fIn t b = if t % b = 0 then t / b else t / b + (if t < 0 then 1 else 0)
    unfold fIn fDown
    rw [fUp_is hb]
    by_cases h : t > 0
    · rw [if_pos h, if_neg (show ¬ t < 0 by omega)]
      split <;> omega
    · rw [if_neg h]
      by_cases h2 : t < 0
      · rw [if_pos h2]
      · have h3 : t = 0 := by omega
        rw [if_neg h2, h3]
        simp
  | out =>
    show fOut t b = if t % b = 0 then t / b else t / b + (if t > 0 then 1 else 0)
    unfold fOut fDown
    rw [fUp_is hb]
    by_cases h : t > 0
    · rw [if_pos h, if_pos h]
    · rw [if_neg h, if_neg h]
      split <;> omega
  | half => exact fHalf_is hb
  | even => exact fEven_is hb
  | far =>
    show fFar t b = if 2 * (t % b) < b then t / b else if b < 2 * (t % b) then t / b + 1 else t / b + (if t > 0 then 1 else 0)
    unfold fFar
    rw [fHalf_is hb, fHalf_neg hb]
    by_cases h : t > 0
    · rw [if_pos h, if_pos h]
      split
      · rfl
      · split <;> rfl
    · rw [if_neg h, if_neg h]
      by_cases h2 : 2 * (t % b) < b
      · rw [if_pos h2, if_neg (show ¬ b < 2 * (t % b) by omega)]
      · rw [if_neg h2]
        split <;> omega
theorem lt_g {x y g : Int} (hg : 0 < g) : x * g < y * g ↔ x < y := ⟨fun h => Int.lt_of_mul_lt_mul_right h (Int.le_of_lt hg), fun h => Int.mul_lt_mul_of_pos_right h hg⟩
theorem lawR_mul (m : Mn) {t b g : Int} (hb : 0 < b) (hg : 0 < g) : lawR m (t * g) (b * g) = lawR m t b := by
  have e1 : t * g / (b * g) = t / b := Int.mul_ediv_mul_of_pos_left _ _ hg
  have e2 : t * g % (b * g) = t % b * g := by
    rw [Int.mul_comm t g, Int.mul_comm b g, Int.mul_emod_mul_of_pos _ _ hg, Int.mul_comm]
  have c0 : t % b * g = 0 ↔ t % b = 0 := by
    constructor
    · intro h
      rcases Int.mul_eq_zero.mp h with h | h
      · exact h
      · omega
    · intro h
      rw [h, Int.zero_mul]
  have c1 : t * g < 0 ↔ t < 0 := by
    have := lt_g (x := t) (y := 0) hg
    rw [Int.zero_mul] at this
    exact this
  have c2 : t * g > 0 ↔ t > 0 := by
    have := lt_g (x := 0) (y := t) hg
    rw [Int.zero_mul] at this
    exact this
  have c3 : 2 * (t % b * g) < b * g ↔ 2 * (t % b) < b := by
    rw [← Int.mul_assoc]
    exact lt_g hg
  have c4 : b * g < 2 * (t % b * g) ↔ b < 2 * (t % b) := by
    rw [← Int.mul_assoc]
    exact lt_g hg
  cases m <;> simp only [lawR, e1, e2, c0, c1, c2, c3, c4]
theorem lawR_eq (m : Mn) {t b x y : Int} (hb : 0 < b) (hy : 0 < y) (h : x * b = t * y) : lawR m x y = lawR m t b := by
  rw [← lawR_mul m hy hb, h, Int.mul_comm y b, lawR_mul m hb hy]
/-- how far off -/
theorem lawR_off (m : Mn) {t b : Int} (hb : 0 < b) : -b ≤ lawR m t b * b - t ∧ lawR m t b * b - t ≤ b := by
  obtain ⟨e, r0, r1⟩ := dm t hb
  have key : ∀ q' : Int, (q' = t / b ∨ q' = t / b + 1) → -b ≤ q' * b - t ∧ q' * b - t ≤ b := fun q' h => by
    generalize t / b = q at *
    generalize t % b = r at *
    rcases h with rfl | rfl
    · omega
    · rw [Int.add_mul, Int.one_mul]
      omega
  refine key _ ?_
  clear key
  cases m <;> simp only [lawR] <;> (generalize t / b = q at *) <;> (repeat' split) <;> (first | omega | exact .inl trivial)
theorem lawR_near {m : Mn} {t b : Int} (hb : 0 < b) (hm : m = .half ∨ m = .even ∨ m = .far) : -b ≤ 2 * (lawR m t b * b - t) ∧ 2 * (lawR m t b * b - t) ≤ b := by
  obtain ⟨e, r0, r1⟩ := dm t hb
  have key : ∀ q' : Int, ((q' = t / b ∧ 2 * (t % b) ≤ b) ∨ (q' = t / b + 1 ∧ b ≤ 2 * (t % b))) → -b ≤ 2 * (q' * b - t) ∧ 2 * (q' * b - t) ≤ b := fun q' h => by
    generalize t / b = q at *
    generalize t % b = r at *
    rcases h with ⟨rfl, h⟩ | ⟨rfl, h⟩
    · omega
    · rw [Int.add_mul, Int.one_mul]
      omega
  refine key _ ?_
  clear key
  rcases hm with rfl | rfl | rfl <;> simp only [lawR] <;> (generalize t / b = q at *) <;> (repeat' split) <;> omega

def spRnd (g : Int → Int → Int) : Sp := fun vs H Q _ => ∃ t b : Int, vs = [.int t, .int b] ∧ 0 < b ∧ t.natAbs < 2 ^ 4000 ∧ b.natAbs < 2 ^ 4000 ∧ Q (.int (g t b)) H
structure Mans (P : Program) (w : World) (K : PySem.W.Frag) (mg : Str → Option Value) (base : Heap) (dM : Addr) (es : Array DictEntry) (n : Nat) : Prop where
  gm : mg "MANNERS" = some (.ref dM)
  D : KDict K w dM es n
  at_ : ∀ m : Mn, ∃ (f : Addr) (fd : FuncData), PySem.W.nsIn K dM m.str = some (some (.ref f)) ∧ PySem.W.keepIn K (.ref f) = true ∧ Binds K fd ["top", "bottom"] [] ∧ FnOk P w K mg base CX0 2 f fd ["top", "bottom"] (spRnd m.f)
/-- whether a thing is a manner -/
def MannerIs (K : PySem.W.Frag) (H : Hp) (dM : Addr) (x : V) (b : Bool) : Prop := (∃ m : Mn, x = .str m.str ∧ b = true) ∨ (∃ z : Str, x = .str z ∧ PySem.W.nsIn K dM z = some none ∧ b = false) ∨ (b = false ∧ ∃ t : String, TyX K H x (.type t) ∧ kitB t "str" = some false)
def spManner (K : PySem.W.Frag) (dM : Addr) : Sp := fun vs H Q _ => ∃ (x : V) (b : Bool), vs = [x] ∧ MannerIs K H dM x b ∧ Q (.bl b) H
def spRounded (K : PySem.W.Frag) : Sp := fun vs H Q _ => ∃ (a : Addr) (m : Mn) (t b : Int), vs = [.ref a, .str m.str] ∧ SqT K H a [.int t, .int b] ∧ 0 < b ∧ t.natAbs < 2 ^ 4000 ∧ b.natAbs < 2 ^ 4000 ∧ Q (.int (m.f t b)) H
theorem two_b {b : Int} (h : b.natAbs < 2 ^ 4000) : (2 * b).natAbs < 2 ^ 4001 := by
  rw [Int.natAbs_mul, Nat.pow_succ, Nat.mul_comm]
  exact Nat.mul_lt_mul_of_pos_right h (by decide)
theorem half_le {t b : Int} (ht : t.natAbs < 2 ^ 4000) (hb : b.natAbs < 2 ^ 4000) : (fHalf t b).natAbs < 2 ^ 4003 := by
  unfold fHalf
  refine Nat.lt_of_le_of_lt (Int.natAbs_ediv_le_natAbs _ _) ?_
  have h1 : (2 * t + b).natAbs ≤ 2 * t.natAbs + b.natAbs := by omega
  have e : 2 ^ 4003 = 2 ^ 4000 * 8 := Nat.pow_add 2 4000 3
  rw [e]
  generalize 2 ^ 4000 = N at *
  omega
section
variable {P : Program} {w : World} {K : PySem.W.Frag} {mg : Str → Option Value} {base : Heap}
theorem sc_downward : FnScope ["top", "bottom"] ["top", "bottom"] (defScope s_downward) := ⟨rfl, rfl, rfl, by decide +kernel, rfl, by decide +kernel, by decide +kernel⟩
theorem ok_downward {f : Addr} {fd : FuncData} {k : Nat} (F : Fun K "downward" "downward" s_downward f fd) : FnOk P w K mg base CX0 (k + 1) f fd ["top", "bottom"] (spRnd fDown) := by
  refine F.ok sc_downward (fun vs H Q E h => ?_) (fun cdv A outer s H vs Q E hr h => ?_)
  · obtain ⟨t, b, rfl, _⟩ := h
    rfl
  · obtain ⟨t, b, rfl, hb, ht, hl, q⟩ := h
    refine ⟨_, (pss_one (ps_ret (pe_op op_fdivW (pv 0) (pv 1)))), ?_⟩
    exact ⟨_, rfl, _, rfl, _, _, rfl, rfl, wide_div hb hl (by decide) (by decide), q⟩
theorem sc_upward : FnScope ["top", "bottom"] ["top", "bottom"] (defScope s_upward) := ⟨rfl, rfl, rfl, by decide +kernel, rfl, by decide +kernel, by decide +kernel⟩
theorem ok_upward {f : Addr} {fd : FuncData} {k : Nat} (F : Fun K "upward" "upward" s_upward f fd) : FnOk P w K mg base CX0 (k + 1) f fd ["top", "bottom"] (spRnd fUp) := by
  refine F.ok sc_upward (fun vs H Q E h => ?_) (fun cdv A outer s H vs Q E hr h => ?_)
  · obtain ⟨t, b, rfl, _⟩ := h
    rfl
  · obtain ⟨t, b, rfl, hb, ht, hl, q⟩ := h
    refine ⟨_, (pss_one (ps_ret (pe_un un_neg (pe_op op_fdivW (pe_un un_neg (pv 0)) (pv 1))))), ?_⟩
    exact ⟨_, rfl, _, rfl, _, rfl, _, _, rfl, rfl, wide_div hb hl (by decide) (by decide), _, rfl, q⟩
theorem sc_inward : FnScope ["top", "bottom"] ["top", "bottom"] (defScope s_inward) := ⟨rfl, rfl, rfl, by decide +kernel, rfl, by decide +kernel, by decide +kernel⟩
theorem ok_inward {f : Addr} {fd : FuncData} (F : Fun K "inward" "inward" s_inward f fd) (c_downward : Cal P w K mg base 1 "downward" ["top", "bottom"] (spRnd fDown)) (c_upward : Cal P w K mg base 1 "upward" ["top", "bottom"] (spRnd fUp)) : FnOk P w K mg base CX0 2 f fd ["top", "bottom"] (spRnd fIn) := by
  refine F.ok sc_inward (fun vs H Q E h => ?_) (fun cdv A outer s H vs Q E hr h => ?_)
  · obtain ⟨t, b, rfl, _⟩ := h
    rfl
  · obtain ⟨t, b, rfl, hb, ht, hl, q⟩ := h
    refine ⟨_, (pss_one (ps_ret (pe_ifExp (pt_cmpR op_gt (pv 0) pe_int (nomark _)) (pe_cal c_downward hr (pa_cons (pv 0) (pa_cons (pv 1) pa_nil))) (pe_cal c_upward hr (pa_cons (pv 0) (pa_cons (pv 1) pa_nil)))))), ?_⟩
    refine ⟨_, rfl, _, _, rfl, rfl, _, rfl, ite2 (fun c => ?_) (fun c => ?_)⟩
    · refine ⟨_, rfl, _, rfl, t, b, rfl, hb, ht, hl, ?_⟩
      have hc : t > 0 := toB c
      unfold fIn at q
      rw [if_pos hc] at q
      exact q
    · refine ⟨_, rfl, _, rfl, t, b, rfl, hb, ht, hl, ?_⟩
      have hc : ¬ t > 0 := toNB c
      unfold fIn at q
      rw [if_neg hc] at q
      exact q
theorem sc_outward : FnScope ["top", "bottom"] ["top", "bottom"] (defScope s_outward) := ⟨rfl, rfl, rfl, by decide +kernel, rfl, by decide +kernel, by decide +kernel⟩
theorem ok_outward {f : Addr} {fd : FuncData} (F : Fun K "outward" "outward" s_outward f fd) (c_downward : Cal P w K mg base 1 "downward" ["top", "bottom"] (spRnd fDown)) (c_upward : Cal P w K mg base 1 "upward" ["top", "bottom"] (spRnd fUp)) : FnOk P w K mg base CX0 2 f fd ["top", "bottom"] (spRnd fOut) := by
  refine F.ok sc_outward (fun vs H Q E h => ?_) (fun cdv A outer s H vs Q E hr h => ?_)
  · obtain ⟨t, b, rfl, _⟩ := h
    rfl
  · obtain ⟨t, b, rfl, hb, ht, hl, q⟩ := h
    refine ⟨_, (pss_one (ps_ret (pe_ifExp (pt_cmpR op_gt (pv 0) pe_int (nomark _)) (pe_cal c_upward hr (pa_cons (pv 0) (pa_cons (pv 1) pa_nil))) (pe_cal c_downward hr (pa_cons (pv 0) (pa_cons (pv 1) pa_nil)))))), ?_⟩
    refine ⟨_, rfl, _, _, rfl, rfl, _, rfl, ite2 (fun c => ?_) (fun c => ?_)⟩
    · refine ⟨_, rfl, _, rfl, t, b, rfl, hb, ht, hl, ?_⟩
      have hc : t > 0 := toB c
      unfold fOut at q
      rw [if_pos hc] at q
      exact q
    · refine ⟨_, rfl, _, rfl, t, b, rfl, hb, ht, hl, ?_⟩
      have hc : ¬ t > 0 := toNB c
      unfold fOut at q
      rw [if_neg hc] at q
      exact q
theorem sc_nearest_greater : FnScope ["top", "bottom"] ["top", "bottom"] (defScope s_nearest_greater) := ⟨rfl, rfl, rfl, by decide +kernel, rfl, by decide +kernel, by decide +kernel⟩
theorem ok_nearest_greater {f : Addr} {fd : FuncData} {k : Nat} (F : Fun K "nearest_greater" "nearest_greater" s_nearest_greater f fd) : FnOk P w K mg base CX0 (k + 1) f fd ["top", "bottom"] (spRnd fHalf) := by
  refine F.ok sc_nearest_greater (fun vs H Q E h => ?_) (fun cdv A outer s H vs Q E hr h => ?_)
  · obtain ⟨t, b, rfl, _⟩ := h
    rfl
  · obtain ⟨t, b, rfl, hb, ht, hl, q⟩ := h
    refine ⟨_, (pss_one (ps_ret (pe_op op_fdivW (pe_op op_add (pe_op op_mul pe_int (pv 0)) (pv 1)) (pe_op op_mul pe_int (pv 1))))), ?_⟩
    exact ⟨_, rfl, _, _, rfl, rfl, .inl ⟨by decide, by decide⟩, _, rfl, _, _, rfl, rfl, _, rfl, _, _, rfl, rfl, .inl ⟨by decide, by decide⟩, _, _, rfl, rfl, wide_div (by omega) (two_b hl) (by decide) (by decide), q⟩
theorem sc_nearest_even : FnScope ["top", "bottom", "near", "halfway"] ["top", "bottom"] (defScope s_nearest_even) := ⟨rfl, rfl, rfl, by decide +kernel, rfl, by decide +kernel, by decide +kernel⟩
theorem ok_nearest_even {f : Addr} {fd : FuncData} (F : Fun K "nearest_even" "nearest_even" s_nearest_even f fd) (c_nearest_greater : Cal P w K mg base 1 "nearest_greater" ["top", "bottom"] (spRnd fHalf)) : FnOk P w K mg base CX0 2 f fd ["top", "bottom"] (spRnd fEven) := by
  refine F.ok sc_nearest_even (fun vs H Q E h => ?_) (fun cdv A outer s H vs Q E hr h => ?_)
  · obtain ⟨t, b, rfl, _⟩ := h
    rfl
  · obtain ⟨t, b, rfl, hb, ht, hl, q⟩ := h
    have hn := half_le ht hl
    refine ⟨_, (pss_cons (ps_set (i := 2) sc_nearest_even.nd rfl (.inl rfl) (pe_cal c_nearest_greater hr (pa_cons (pv 0) (pa_cons (pv 1) pa_nil))))
      (pss_cons (ps_set (i := 3) sc_nearest_even.nd rfl (.inl rfl) (pe_cmpR op_eq (pe_op op_mul pe_int (pe_op op_sub (pe_op op_mulW (pv 2) (pv 1)) (pv 0))) (pv 1) (nomark _)))
      (pss_one (ps_ret (pe_ifExp (PW.pt (pw_and (pt_val (pv 3)) (pw_and1 (pt_truth (pe_op op_and (pv 2) pe_int) (by intro _; rfl))))) (pe_op op_sub (pv 2) pe_int) (pv 2)))))), ?_⟩
    refine ⟨_, rfl, _, rfl, t, b, rfl, hb, ht, hl, ?_⟩
    unfold fEven at q
    generalize fHalf t b = n at *
    refine ⟨_, rfl, _, rfl, _, _, rfl, rfl, wide_mul hn hl (by decide) (by decide) (by decide), _, rfl, _, _, rfl, rfl, _, _, rfl, rfl, .inl ⟨by decide, by decide⟩, _, rfl, rfl, ?_⟩
    have eB : (decide (V.int (2 * (n * b - t)) = V.int b)) = decide (2 * (n * b - t) = b) := by
      by_cases h : 2 * (n * b - t) = b
      · rw [h, decide_eq_true rfl, decide_eq_true rfl]
      · rw [decide_eq_false h, decide_eq_false (fun z => h (V.int.inj z))]
    rw [eB]
    by_cases hc : 2 * (n * b - t) = b
    · rw [decide_eq_true hc]
      refine ⟨_, rfl, _, rfl, iteT ⟨_, rfl, _, _, rfl, rfl, _, rfl, ?_⟩⟩
      rw [PyProof.Rows.bitAnd_m1]
      by_cases h2 : n % 2 ≠ 0
      · have e : (n % 2 != 0) = true := by
          rw [bne_iff_ne]
          exact h2
        rw [e]
        rw [if_pos ⟨hc, h2⟩] at q
        exact iteT ⟨_, rfl, _, _, rfl, rfl, q⟩
      · have e : (n % 2 != 0) = false := by
          have : n % 2 = 0 := by omega
          rw [this]
          rfl
        rw [e]
        rw [if_neg (fun z => h2 z.2)] at q
        exact iteF ⟨_, rfl, q⟩
    · rw [decide_eq_false hc]
      rw [if_neg (fun z => hc z.1)] at q
      exact ⟨_, rfl, _, rfl, iteF (iteF ⟨_, rfl, q⟩)⟩
theorem sc_nearest_far : FnScope ["top", "bottom"] ["top", "bottom"] (defScope s_nearest_far) := ⟨rfl, rfl, rfl, by decide +kernel, rfl, by decide +kernel, by decide +kernel⟩
theorem ok_nearest_far {f : Addr} {fd : FuncData} (F : Fun K "nearest_far" "nearest_far" s_nearest_far f fd) (c_nearest_greater : Cal P w K mg base 1 "nearest_greater" ["top", "bottom"] (spRnd fHalf)) : FnOk P w K mg base CX0 2 f fd ["top", "bottom"] (spRnd fFar) := by
  refine F.ok sc_nearest_far (fun vs H Q E h => ?_) (fun cdv A outer s H vs Q E hr h => ?_)
  · obtain ⟨t, b, rfl, _⟩ := h
    rfl
  · obtain ⟨t, b, rfl, hb, ht, hl, q⟩ := h
    refine ⟨_, (pss_one (ps_ret (pe_ifExp (pt_cmpR op_gt (pv 0) pe_int (nomark _)) (pe_cal c_nearest_greater hr (pa_cons (pv 0) (pa_cons (pv 1) pa_nil))) (pe_un un_neg (pe_cal c_nearest_greater hr (pa_cons (pe_un un_neg (pv 0)) (pa_cons (pv 1) pa_nil))))))), ?_⟩
    refine ⟨_, rfl, _, _, rfl, rfl, _, rfl, ite2 (fun c => ?_) (fun c => ?_)⟩
    · refine ⟨_, rfl, _, rfl, t, b, rfl, hb, ht, hl, ?_⟩
      have hc : t > 0 := toB c
      unfold fFar at q
      rw [if_pos hc] at q
      exact q
    · refine ⟨_, rfl, _, rfl, _, rfl, -t, b, rfl, hb, by rw [Int.natAbs_neg]; exact ht, hl, _, rfl, ?_⟩
      have hc : ¬ t > 0 := toNB c
      unfold fFar at q
      rw [if_neg hc] at q
      exact q
theorem sc_is_manner : FnScope ["thing"] ["thing"] (defScope s_is_manner) := ⟨rfl, rfl, rfl, by decide +kernel, rfl, by decide +kernel, by decide +kernel⟩
theorem ok_is_manner {f : Addr} {fd : FuncData} {k : Nat} {dM : Addr} {es : Array DictEntry} {n : Nat} (M : Mans P w K mg base dM es n) (F : Fun K "is_manner" "is_manner" s_is_manner f fd) (z : Zs mg) : FnOk P w K mg base CX0 (k + 1) f fd ["thing"] (spManner K dM) := by
  refine F.ok sc_is_manner (fun vs H Q E h => ?_) (fun cdv A outer s H vs Q E hr h => ?_)
  · obtain ⟨x, b, rfl, _⟩ := h
    rfl
  · obtain ⟨x, b, rfl, hm, q⟩ := h
    refine ⟨_, (pss_one (ps_ret (pe_and (pe_callB call_isi (by rfl) z.isinstance (by decide +kernel) (pa_cons (pv 0) (pa_cons (pe_bltn (v := .ty "str") (by rfl) z.str (by decide +kernel) rfl) pa_nil))) (pe_one (pe_cmpR (op_in_kd M.D) (pv 0) (pe_glob (v := .ref dM) (by rfl) M.gm rfl) (by rfl)))))), ?_⟩
    rcases hm with ⟨m, rfl, rfl⟩ | ⟨y, rfl, ny, rfl⟩ | ⟨rfl, t, ty, kt⟩
    · obtain ⟨fm, fdm, h1, _⟩ := M.at_ m
      exact ⟨_, rfl, _, .ty "str", _, _, true, rfl, .ty _, .base (.str _), kit_ty (by decide +kernel), _, rfl, iteT ⟨_, rfl, _, _, rfl, rfl, h1, q⟩⟩
    · exact ⟨_, rfl, _, .ty "str", _, _, true, rfl, .ty _, .base (.str _), kit_ty (by decide +kernel), _, rfl, iteT ⟨_, rfl, _, _, rfl, rfl, ny, q⟩⟩
    · exact ⟨_, rfl, _, .ty "str", _, _, false, rfl, .ty _, ty, kit_ty kt, _, rfl, iteF q⟩
end
end E1

namespace E1
open PySem PySem.Spec PyProof.Rows L2
abbrev s_Form___init__ : Stmt := inClass (topS 27) 0
abbrev s_Form_least : Stmt := inClass (topS 27) 1
abbrev s_Form_greatest : Stmt := inClass (topS 27) 2
abbrev s_Form_has : Stmt := inClass (topS 27) 3
abbrev s_Form_step : Stmt := inClass (topS 27) 4
abbrev s_Form_slack : Stmt := inClass (topS 27) 5
abbrev s_Form_value : Stmt := inClass (topS 27) 6
abbrev s_Form_word_for : Stmt := inClass (topS 27) 7
abbrev s_Form_ended : Stmt := inClass (topS 27) 8
abbrev s_Form_kept : Stmt := inClass (topS 27) 9
abbrev s_Form_kept_at : Stmt := inClass (topS 27) 10
abbrev s_Form_bits : Stmt := inClass (topS 27) 11
abbrev s_Form_is_bits : Stmt := inClass (topS 27) 12
abbrev s_Form_word_of : Stmt := inClass (topS 27) 13
abbrev s_Form_added : Stmt := inClass (topS 27) 14
abbrev s_Form___eq__ : Stmt := inClass (topS 27) 15
abbrev s_Form___str__ : Stmt := inClass (topS 27) 16
abbrev s_Form___repr__ : Stmt := inClass (topS 27) 17

/-! ### objects: methods, making -/
def CalM (P : Program) (w : World) (K : PySem.W.Frag) (mg : Str → Option Value) (base : Heap) (k : Nat) (C : Addr) (m : Str) (ps : List Str) (sp : Sp) : Prop :=
  ∃ (f : Addr) (fd : FuncData), Meth K C m f ∧ Binds K fd ps [] ∧ FnOk P w K mg base CX0 k f fd ps sp
def CalMK (P : Program) (w : World) (K : PySem.W.Frag) (mg : Str → Option Value) (base : Heap) (k : Nat) (C : Addr) (m : Str) (ps ks : List Str) (gV : List V → List V → List V) (sp : Sp) : Prop :=
  ∃ (f : Addr) (fd : FuncData) (g : List Value → List Value → List Value), Meth K C m f ∧ KBn K fd ps 1 ks g gV ∧ FnOk P w K mg base CX0 k f fd ps sp
def CalC (P : Program) (w : World) (K : PySem.W.Frag) (mg : Str → Option Value) (base : Heap) (k : Nat) (x : Str) (C : Addr) (ps : List Str) (dvs : List V) (sp : Sp) : Prop :=
  ∃ (f : Addr) (fd : FuncData) (ds : List Value), Mk K C f ∧ mg x = some (.ref C) ∧ Vals dvs ds ∧ Binds K fd ps ds ∧ FnOk P w K mg base CX0 k f fd ps sp
section
variable {X : Cx} {k j : Nat} {C : Addr} {m x : Str} {ps ks : List Str} {dvs : List V} {sp : Sp} {o e : Expr} {es : List Expr} {ta : TE} {t tk : TA} {apos p pos : Pos} {gV : List V → List V → List V} {kws : List Keyword}
theorem pe_calm {pl : Sem Bool} (he : PE X o ta) (c : Cls X.K C) (h : CalM X.prog X.w X.K X.mg X.base k C m ps sp) (hr : Room j X.A) (ha : PA X (e :: es) t) (hle : k ≤ j := by decide)
    (hst : starEach (e :: es) X.env = (false, eval e X.env) :: starEach es X.env := by rfl) (hpl : (backTo pos (starEach es X.env)).any (·.1) = false := by rfl)
    (ht : eval (.Call (.Attribute o m apos) (e :: es) [] pos) X.env = (do
      let ov ← eval o X.env
      standAt apos.atName
      let (f, first) ← holding [ov] (getMethod ov m pl)
      callWith pos f first (backTo pos (starEach (e :: es) X.env)) (backToKw pos (keywordEach [] X.env))) := by rfl) :
    PE X (.Call (.Attribute o m apos) (e :: es) [] pos) (tMeth C m sp [] E0 ta t) := by
  obtain ⟨f, fd, h1, h2, h3⟩ := h
  exact pe_meth he c h1 h3 (hr.mono hle) h2 .nil pass0 ha hst hpl ht
theorem pe_calm0 {pl : Sem Bool} (he : PE X o ta) (c : Cls X.K C) (h : CalM X.prog X.w X.K X.mg X.base k C m ps sp) (hr : Room j X.A) (hle : k ≤ j := by decide)
    (ht : eval (.Call (.Attribute o m apos) [] [] pos) X.env = (do
      let ov ← eval o X.env
      standAt apos.atName
      let (f, first) ← holding [ov] (getMethod ov m pl)
      callWith pos f first (backTo pos (starEach [] X.env)) (backToKw pos (keywordEach [] X.env))) := by rfl) :
    PE X (.Call (.Attribute o m apos) [] [] pos) (tMeth C m sp [] E0 ta tNil) := by
  obtain ⟨f, fd, h1, h2, h3⟩ := h
  exact pe_meth0 he c h1 h3 (hr.mono hle) h2 .nil pass0 ht
def tMethK (C : Addr) (m : Str) (n : Nat) (sp : Sp) (gV : List V → List V → List V) (ta : TE) (tk : TA) : TE := fun σ H Q => ta σ H fun x H1 => ∃ a dx fs, x = .ref a ∧ H1 a = some (.ins C dx fs) ∧ fs.lookup m = none ∧
  tk σ H1 fun zs H2 => zs.length = n ∧ sp (gV [x] zs) H2 Q E0
theorem pe_calmk0 {pl : Sem Bool} (he : PE X o ta) (c : Cls X.K C) (h : CalMK X.prog X.w X.K X.mg X.base k C m ps ks gV sp) (hr : Room j X.A) (hkw : PK X kws tk) (hle : k ≤ j := by decide)
    (hall : (backToKw pos (keywordEach kws X.env)).all (·.1.isSome) = true := by rfl) (hks : (backToKw pos (keywordEach kws X.env)).filterMap (·.1) = ks := by rfl)
    (hpl : ((backTo pos (starEach [] X.env)).any (·.1) || (backToKw pos (keywordEach kws X.env)).any (·.1.isNone)) = false := by rfl)
    (ht : eval (.Call (.Attribute o m apos) [] kws pos) X.env = (do
      let ov ← eval o X.env
      standAt apos.atName
      let (f, first) ← holding [ov] (getMethod ov m pl)
      callWith pos f first (backTo pos (starEach [] X.env)) (backToKw pos (keywordEach kws X.env))) := by rfl) :
    PE X (.Call (.Attribute o m apos) [] kws pos) (tMethK C m ks.length sp gV ta tk) := by
  obtain ⟨f, fd, g, hm, hb, F⟩ := h
  refine ⟨fun pins s σ H Q I h => ?_⟩
  refine PySem.W.methodCall_KW (pl := pl) (thn (he.run pins s σ H _ I h) fun u s1 ⟨x, H1, I1, rx, a, dx, fs, ex, ea, l, q⟩ => ?_) ht
  subst ex
  obtain rfl : u = Value.ref a := rx
  refine getmeth_ok I1 ea c hm l ?_
  refine PySem.W.callWith_KW0 (first := [.ref a]) (h₀ := X.base) I.ok.mod.kin hm.kp hall (thn (hkw.run pos pins s1 σ H1 _ I1 q) fun ws s2 ⟨zs, H2, I2, rz, l2, q2⟩ => ⟨I2.kIn, ?_⟩) hpl
  rw [hks]
  exact run_fnN (vs := [.ref a]) (us := [.ref a]) F (hr.mono hle) hb pass0 I2 (.cons rfl .nil) rz rfl l2 q2
theorem pe_calc (h : CalC X.prog X.w X.K X.mg X.base k x C ps dvs sp) (hr : Room j X.A) (ha : PA X (e :: es) t) (hle : k + 1 ≤ j := by decide) (hg : Gl X x := by rfl)
    (hdb : (x == ("__debug__" : Str)) = false := by decide) (he : starEach (e :: es) X.env = (false, eval e X.env) :: starEach es X.env := by rfl) (hpl : (backTo pos (starEach es X.env)).any (·.1) = false := by rfl) :
    PE X (.Call (.Name x p) (e :: es) [] pos) (tMake C sp dvs E0 t) := by
  obtain ⟨f, fd, ds, h1, h2, h3, h4, h5⟩ := h
  exact pe_make h1 h5 (hr.mono hle) hg h2 h4 h3 pass0 ha hdb he hpl
end
/-! ### forms -/
def wV : Option Int → V
  | none => .non
  | some w => .int w
def endS : Bool → Str
  | true => "stop"
  | false => "wrap"
def flds (w : Option Int) (pt : Int) (m : Mn) (st : Bool) : List (Str × V) := [("width", wV w), ("point", .int pt), ("manner", .str m.str), ("ends", .str (endS st))]
def WOk (w : Option Int) : Prop := ∀ x, w = some x → 2 ≤ x ∧ x ≤ 64
structure FormAt (C : Addr) (H : Hp) (p : Addr) (w : Option Int) (pt : Int) (m : Mn) (st : Bool) : Prop where
  ob : ∃ dx, H p = some (.ins C dx (flds w pt m st))
  wo : WOk w
  p0 : -64 ≤ pt
  p1 : pt ≤ 64
theorem FormAt.same {C : Addr} {H H' : Hp} {p : Addr} {w : Option Int} {pt : Int} {m : Mn} {st : Bool} (f : FormAt C H p w pt m st) (s : Same H H') : FormAt C H' p w pt m st := by
  obtain ⟨⟨dx, h⟩, a, b, c⟩ := f
  exact ⟨⟨dx, s _ _ h⟩, a, b, c⟩
theorem nPW : (("point" : Str) == "width") = false := by decide +kernel
theorem nMW : (("manner" : Str) == "width") = false := by decide +kernel
theorem nMP : (("manner" : Str) == "point") = false := by decide +kernel
theorem nEW : (("ends" : Str) == "width") = false := by decide +kernel
theorem nEP : (("ends" : Str) == "point") = false := by decide +kernel
theorem nEM : (("ends" : Str) == "manner") = false := by decide +kernel
section
variable {w : Option Int} {pt : Int} {m : Mn} {st : Bool}
theorem fl_w : (flds w pt m st).lookup ("width" : Str) = some (wV w) := by
  unfold flds
  rw [List.lookup_cons, beq_self_eq_true]
theorem fl_p : (flds w pt m st).lookup ("point" : Str) = some (.int pt) := by
  unfold flds
  rw [List.lookup_cons, nPW, List.lookup_cons, beq_self_eq_true]
theorem fl_m : (flds w pt m st).lookup ("manner" : Str) = some (.str m.str) := by
  unfold flds
  rw [List.lookup_cons, nMW, List.lookup_cons, nMP, List.lookup_cons, beq_self_eq_true]
theorem fl_e : (flds w pt m st).lookup ("ends" : Str) = some (.str (endS st)) := by
  unfold flds
  rw [List.lookup_cons, nEW, List.lookup_cons, nEP, List.lookup_cons, nEM, List.lookup_cons, beq_self_eq_true]
theorem fl_no {x : Str} (h : [(x == "width"), (x == "point"), (x == "manner"), (x == "ends")] = [false, false, false, false]) : (flds w pt m st).lookup x = none := by
  have h1 : (x == "width") = false := (List.cons.inj h).1
  have h2 : (x == "point") = false := (List.cons.inj (List.cons.inj h).2).1
  have h3 : (x == "manner") = false := (List.cons.inj (List.cons.inj (List.cons.inj h).2).2).1
  have h4 : (x == "ends") = false := (List.cons.inj (List.cons.inj (List.cons.inj (List.cons.inj h).2).2).2).1
  unfold flds
  rw [List.lookup_cons, h1, List.lookup_cons, h2, List.lookup_cons, h3, List.lookup_cons, h4]
  rfl
theorem ne_of_beq {a b : Str} (h : (b == a) = false) : ¬ a = b := fun e => by
  rw [e, beq_self_eq_true] at h
  cases h
theorem fl_put {a b c d : V} : putF "ends" d (putF "manner" c (putF "point" b (putF "width" a []))) = [(("width" : Str), a), ("point", b), ("manner", c), ("ends", d)] := by
  simp only [putF, if_neg (ne_of_beq nPW), if_neg (ne_of_beq nMW), if_neg (ne_of_beq nMP), if_neg (ne_of_beq nEW), if_neg (ne_of_beq nEP), if_neg (ne_of_beq nEM)]
end
/-- what the walk asks of the class and of the module's constants -/
structure FTxt (K : PySem.W.Frag) (mg : Str → Option Value) (C : Addr) : Prop where
  cl : Cls K C
  nW : NoAttr K C "width"
  nP : NoAttr K C "point"
  nM : NoAttr K C "manner"
  nE : NoAttr K C "ends"
structure FCst (K : PySem.W.Frag) (mg : Str → Option Value) (aE aN : Addr) : Prop where
  lw : ∃ t, mg "LEAST_WIDTH" = some (.int 2 t)
  gw : ∃ t, mg "GREATEST_WIDTH" = some (.int 64 t)
  gp : ∃ t, mg "GREATEST_POINT" = some (.int 64 t)
  e : mg "ENDS" = some (.ref aE)
  eT : ∀ H, SqT K H aE [.str "wrap", .str "stop"]
  n : mg "NEAREST_MANNERS" = some (.ref aN)
  nT : ∀ H, SqT K H aN [.str "half", .str "even", .str "far"]
def two (n : Int) : Int := 2 ^ n.toNat
def lst (x : Int) : Int := -(two (x - 1))
def grt (x : Int) : Int := two (x - 1) - 1
def lstV : Option Int → V
  | none => .non
  | some x => .int (lst x)
def grtV : Option Int → V
  | none => .non
  | some x => .int (grt x)
def inR : Option Int → Int → Bool
  | none, _ => true
  | some x, n => decide (lst x ≤ n) && decide (n ≤ grt x)
def nearB : Mn → Bool
  | .half => true
  | .even => true
  | .far => true
  | _ => false
/-- the word as which a whole number of steps is kept -/
def wordF (w : Option Int) (st : Bool) (n : Int) : Int := match w with
  | none => n
  | some x => if inR (some x) n = true then n else if st = true then (if n < 0 then lst x else grt x) else (n - lst x) % two x + lst x
def spWidth : Sp := fun vs H Q _ => ∃ w : Option Int, vs = [wV w] ∧ WOk w ∧ Q (.bl true) H
def spPoint : Sp := fun vs H Q _ => ∃ p : Int, vs = [.int p] ∧ -64 ≤ p ∧ p ≤ 64 ∧ Q (.bl true) H
def spEnds : Sp := fun vs H Q _ => ∃ st : Bool, vs = [.str (endS st)] ∧ Q (.bl true) H
def spInit (C : Addr) : Sp := fun vs H Q _ => ∃ (p dx : Addr) (w : Option Int) (pt : Int) (m : Mn) (st : Bool), vs = [.ref p, wV w, .int pt, .str m.str, .str (endS st)] ∧ WOk w ∧ -64 ≤ pt ∧ pt ≤ 64 ∧ H p = some (.ins C dx []) ∧
  ∀ H', FormAt C H' p w pt m st → (∀ b o, b ≠ p → H b = some o → H' b = some o) → (∀ b, b ≠ p → H b = none → H' b = none) → Q .non H'
def spF (C : Addr) (r : Option Int → Int → Mn → Bool → Hp → VK → Prop) : Sp := fun vs H Q _ => ∃ (p : Addr) (w : Option Int) (pt : Int) (m : Mn) (st : Bool), vs = [.ref p] ∧ FormAt C H p w pt m st ∧ r w pt m st H Q
def spLeast (C : Addr) : Sp := spF C fun w _ _ _ H Q => Q (lstV w) H
def spGreatest (C : Addr) : Sp := spF C fun w _ _ _ H Q => Q (grtV w) H
def spStep (C : Addr) : Sp := spF C fun _ pt _ _ H Q => ∀ p, H p = none → Q (.ref p) (upd H p (.tup [.int (twoT (-pt)), .int (twoB (-pt))]))
def spSlack (C : Addr) : Sp := spF C fun _ _ m _ H Q => ∀ p, H p = none → Q (.ref p) (upd H p (.tup [.int 1, .int (if nearB m = true then 2 else 1)]))
def spHas (K : PySem.W.Frag) (C : Addr) : Sp := fun vs H Q _ => ∃ (p : Addr) (w : Option Int) (pt : Int) (m : Mn) (st : Bool) (x : V) (b : Bool), vs = [.ref p, x] ∧ FormAt C H p w pt m st ∧ ((∃ n, x = .int n ∧ b = inR w n) ∨ (WholeIs K H x false ∧ b = false)) ∧ Q (.bl b) H
def spWord (C : Addr) : Sp := fun vs H Q _ => ∃ (p : Addr) (w : Option Int) (pt : Int) (m : Mn) (st : Bool) (n : Int), vs = [.ref p, .int n] ∧ FormAt C H p w pt m st ∧ Q (.int (wordF w st n)) H
/-- how many steps a value is, rounded -/
def steps (pt : Int) (m : Mn) (t b : Int) : Int := m.f (lowT (t * twoB (-pt)) (b * twoT (-pt))) (lowB (t * twoB (-pt)) (b * twoT (-pt)))
def spKept (K : PySem.W.Frag) (C : Addr) : Sp := fun vs H Q _ => ∃ (p : Addr) (w : Option Int) (pt : Int) (m : Mn) (st : Bool) (a : Addr) (t b : Int), vs = [.ref p, .ref a] ∧ FormAt C H p w pt m st ∧ SqT K H a [.int t, .int b] ∧ 0 < b ∧ t.natAbs < 2 ^ 1500 ∧ b.natAbs < 2 ^ 1500 ∧
  ∀ (r : Addr) (H' : Hp), H r = none → Same H H' → H' r = some (.tup [.int (wordF w st (steps pt m t b)), .int (steps pt m t b - wordF w st (steps pt m t b))]) → Q (.ref r) H'
theorem two_pos (n : Int) : 0 < two n := by
  unfold two
  exact Int.pow_pos (by decide)
theorem twoT_pos (n : Int) : 0 < twoT n := by
  unfold twoT
  split
  · decide
  · exact Int.pow_pos (by decide)
theorem twoB_pos (n : Int) : 0 < twoB n := by
  unfold twoB
  split
  · exact Int.pow_pos (by decide)
  · decide
theorem two_lt {n : Int} {k : Nat} (h : n.toNat < k) : (2 ^ n.toNat : Int).natAbs < 2 ^ k := by
  rw [Int.natAbs_pow]
  exact Nat.pow_lt_pow_right (by decide) h
theorem twoT_lt {n : Int} (h1 : n ≤ 64) : (twoT n).natAbs < 2 ^ 65 := by
  unfold twoT
  split
  · decide
  · exact two_lt (by omega)
theorem twoB_lt {n : Int} (h1 : -64 ≤ n) : (twoB n).natAbs < 2 ^ 65 := by
  unfold twoB
  split
  · exact two_lt (by omega)
  · decide
theorem low_pos' {t b : Int} (hb : b ≠ 0) : 0 < lowB t b := by
  have g0 := gI_pos (t := t) hb
  have g1 := gI_le (t := t) hb
  have : 1 ≤ lowB t b := by
    unfold lowB
    refine (Int.le_ediv_iff_mul_le g0).mpr ?_
    split <;> omega
  omega
theorem lowT_le {t b : Int} : (lowT t b).natAbs ≤ t.natAbs := by
  unfold lowT
  refine Nat.le_trans (Int.natAbs_ediv_le_natAbs _ _) ?_
  split <;> omega
theorem lowB_le {t b : Int} : (lowB t b).natAbs ≤ b.natAbs := by
  unfold lowB
  refine Nat.le_trans (Int.natAbs_ediv_le_natAbs _ _) ?_
  split <;> omega

structure FCst2 (K : PySem.W.Frag) (mg : Str → Option Value) (aE : Addr) : Prop where
  lw : ∃ t, mg "LEAST_WIDTH" = some (.int 2 t)
  gw : ∃ t, mg "GREATEST_WIDTH" = some (.int 64 t)
  gp : ∃ t, mg "GREATEST_POINT" = some (.int 64 t)
  e : mg "ENDS" = some (.ref aE)
  eT : ∀ H, SqT K H aE [.str "wrap", .str "stop"]
theorem iteC {c d : Bool} {A B : Prop} (e : c = d) (h : if d = true then A else B) : if c = true then A else B := by
  rw [e]
  exact h
/-- whether a thing is a width, a point, ends -/
def WidthIs (K : PySem.W.Frag) (H : Hp) (x : V) (b : Bool) : Prop := (∃ w, x = wV w ∧ WOk w ∧ b = true) ∨ (∃ n, x = .int n ∧ ¬ (2 ≤ n ∧ n ≤ 64) ∧ b = false) ∨ (b = false ∧ x ≠ .non ∧ WholeIs K H x false)
def PointIs (K : PySem.W.Frag) (H : Hp) (x : V) (b : Bool) : Prop := (∃ n, x = .int n ∧ b = decide (-64 ≤ n ∧ n ≤ 64)) ∨ (b = false ∧ WholeIs K H x false)
def EndsIs (K : PySem.W.Frag) (H : Hp) (x : V) (b : Bool) : Prop := (∃ z : Str, x = .str z ∧ b = inV (.str z) [.str "wrap", .str "stop"]) ∨ (b = false ∧ ∃ t : String, TyX K H x (.type t) ∧ kitB t "str" = some false)
def sp1 (R : Hp → V → Bool → Prop) : Sp := fun vs H Q _ => ∃ (x : V) (b : Bool), vs = [x] ∧ R H x b ∧ Q (.bl b) H
/-- which part is the first one amiss -/
def firstBad (b1 b2 b3 : Bool) : Str := if b1 = false then "width" else if b2 = false then "point" else if b3 = false then "manner" else "ends"
def spInitX (K : PySem.W.Frag) (dM C CB : Addr) : Sp := fun vs H _ E => ∃ (p dx : Addr) (x1 x2 x3 x4 : V) (b1 b2 b3 b4 : Bool), vs = [.ref p, x1, x2, x3, x4] ∧ H p = some (.ins C dx []) ∧ WidthIs K H x1 b1 ∧ PointIs K H x2 b2 ∧ MannerIs K H dM x3 b3 ∧ EndsIs K H x4 b4 ∧ (b1 && b2 && b3 && b4) = false ∧
  ∀ d, H d = none → E (.ref CB) (some d) (upd H d (.xd [("part", .str (firstBad b1 b2 b3))]))

def spInitB (K : PySem.W.Frag) (dM C CB : Addr) : Sp := fun vs H Q E => ∃ (p dx : Addr) (x1 x2 x3 x4 : V) (b1 b2 b3 b4 : Bool), vs = [.ref p, x1, x2, x3, x4] ∧ H p = some (.ins C dx []) ∧ WidthIs K H x1 b1 ∧ PointIs K H x2 b2 ∧ MannerIs K H dM x3 b3 ∧ EndsIs K H x4 b4 ∧
  ((b1 && b2 && b3 && b4) = false → ∀ d, H d = none → E (.ref CB) (some d) (upd H d (.xd [("part", .str (firstBad b1 b2 b3))]))) ∧
  (∀ w pt m st, x1 = wV w → x2 = .int pt → x3 = .str m.str → x4 = .str (endS st) → ∀ H', FormAt C H' p w pt m st → (∀ b o, b ≠ p → H b = some o → H' b = some o) → Q .non H')
theorem ends_in {z : Str} (h : inV (.str z) [.str "wrap", .str "stop"] = true) : ∃ st, z = endS st := by
  unfold inV at h
  rw [List.any_cons, List.any_cons, List.any_nil, Bool.or_false] at h
  rcases (Bool.or_eq_true _ _).mp h with h | h
  · exact ⟨false, (eq_of_beq (show (Str.ofString "wrap" == z) = true from h)).symm⟩
  · exact ⟨true, (eq_of_beq (show (Str.ofString "stop" == z) = true from h)).symm⟩
section
variable {P : Program} {w : World} {K : PySem.W.Frag} {mg : Str → Option Value} {base : Heap}
theorem sc_is_width : FnScope ["thing"] ["thing"] (defScope s_is_width) := ⟨rfl, rfl, rfl, by decide +kernel, rfl, by decide +kernel, by decide +kernel⟩
theorem ok_is_width {f : Addr} {fd : FuncData} {aE : Addr} (Z : FCst2 K mg aE) (F : Fun K "is_width" "is_width" s_is_width f fd) (c_is_whole : Cal P w K mg base 1 "is_whole" ["thing"] (spWhole K)) : FnOk P w K mg base CX0 2 f fd ["thing"] (sp1 (WidthIs K)) := by
  refine F.ok sc_is_width (fun vs H Q E h => ?_) (fun cdv A outer s H vs Q E hr h => ?_)
  · obtain ⟨x, b, rfl, _⟩ := h
    rfl
  · obtain ⟨x, b, rfl, hx, q⟩ := h
    obtain ⟨_, gLW⟩ := Z.lw
    obtain ⟨_, gGW⟩ := Z.gw
    refine ⟨_, (pss_one (ps_ret (pe_or (pe_cmpR op_isN (pv 0) pe_non (nomark _)) (pe_one (pe_and (pe_cal c_is_whole hr (pa_cons (pv 0) pa_nil)) (pe_one (pe_chain op_le op_le (pe_glob (v := .int 2) (by rfl) gLW ⟨_, rfl⟩) (pv 0) (pe_glob (v := .int 64) (by rfl) gGW ⟨_, rfl⟩)))))))), ?_⟩
    rcases hx with ⟨w, rfl, hw, rfl⟩ | ⟨n, rfl, hn, rfl⟩ | ⟨rfl, hne, hx⟩
    · cases w with
      | none => exact ⟨_, rfl, rfl, _, rfl, iteT q⟩
      | some x =>
        obtain ⟨h1, h2⟩ := hw x rfl
        refine ⟨_, rfl, rfl, _, rfl, iteF ⟨_, rfl, _, _, rfl, .int x, _, rfl, iteT ⟨_, rfl, _, _, rfl, rfl, _, rfl, ?_⟩⟩⟩
        rw [decide_eq_true h1]
        refine iteT ⟨_, _, rfl, rfl, ?_⟩
        show Q (.bl (decide (x ≤ 64))) H
        rw [decide_eq_true h2]
        exact q
    · refine ⟨_, rfl, rfl, _, rfl, iteF ⟨_, rfl, _, _, rfl, .int n, _, rfl, iteT ⟨_, rfl, _, _, rfl, rfl, _, rfl, ?_⟩⟩⟩
      by_cases h1 : 2 ≤ n
      · rw [decide_eq_true h1]
        refine iteT ⟨_, _, rfl, rfl, ?_⟩
        show Q (.bl (decide (n ≤ 64))) H
        rw [decide_eq_false (fun h2 => hn ⟨h1, h2⟩)]
        exact q
      · rw [decide_eq_false h1]
        exact iteF q
    · refine ⟨_, rfl, rfl, _, rfl, ?_⟩
      refine iteC (c := decide (x = V.non)) (d := false) (decide_eq_false hne) (iteF ?_)
      exact ⟨_, rfl, _, _, rfl, hx, _, rfl, iteF q⟩
theorem sc_is_point : FnScope ["thing"] ["thing"] (defScope s_is_point) := ⟨rfl, rfl, rfl, by decide +kernel, rfl, by decide +kernel, by decide +kernel⟩
theorem ok_is_point {f : Addr} {fd : FuncData} {aE : Addr} (Z : FCst2 K mg aE) (F : Fun K "is_point" "is_point" s_is_point f fd) (z : Zs mg) (c_is_whole : Cal P w K mg base 1 "is_whole" ["thing"] (spWhole K)) : FnOk P w K mg base CX0 2 f fd ["thing"] (sp1 (PointIs K)) := by
  refine F.ok sc_is_point (fun vs H Q E h => ?_) (fun cdv A outer s H vs Q E hr h => ?_)
  · obtain ⟨x, b, rfl, _⟩ := h
    rfl
  · obtain ⟨x, b, rfl, hx, q⟩ := h
    obtain ⟨_, gGP⟩ := Z.gp
    refine ⟨_, (pss_one (ps_ret (pe_and (pe_cal c_is_whole hr (pa_cons (pv 0) pa_nil)) (pe_one (pe_cmpR op_le (pe_callB call_abs (by rfl) z.abs (by decide +kernel) (pa_cons (pv 0) pa_nil)) (pe_glob (v := .int 64) (by rfl) gGP ⟨_, rfl⟩) (nomark _)))))), ?_⟩
    rcases hx with ⟨n, rfl, rfl⟩ | ⟨rfl, hx⟩
    · refine ⟨_, rfl, _, _, rfl, .int n, _, rfl, iteT ⟨_, rfl, _, rfl, _, _, rfl, rfl, ?_⟩⟩
      show Q (.bl (decide ((if n < 0 then -n else n) ≤ 64))) H
      have e : (decide ((if n < 0 then -n else n) ≤ 64)) = decide (-64 ≤ n ∧ n ≤ 64) := by
        refine decide_eq_decide.mpr ?_
        split <;> omega
      rw [e]
      exact q
    · exact ⟨_, rfl, _, _, rfl, hx, _, rfl, iteF q⟩
theorem sc_is_ends : FnScope ["thing"] ["thing"] (defScope s_is_ends) := ⟨rfl, rfl, rfl, by decide +kernel, rfl, by decide +kernel, by decide +kernel⟩
theorem ok_is_ends {f : Addr} {fd : FuncData} {k : Nat} {aE : Addr} (Z : FCst2 K mg aE) (F : Fun K "is_ends" "is_ends" s_is_ends f fd) (z : Zs mg) : FnOk P w K mg base CX0 (k + 1) f fd ["thing"] (sp1 (EndsIs K)) := by
  refine F.ok sc_is_ends (fun vs H Q E h => ?_) (fun cdv A outer s H vs Q E hr h => ?_)
  · obtain ⟨x, b, rfl, _⟩ := h
    rfl
  · obtain ⟨x, b, rfl, hx, q⟩ := h
    refine ⟨_, (pss_one (ps_ret (pe_and (pe_callB call_isi (by rfl) z.isinstance (by decide +kernel) (pa_cons (pv 0) (pa_cons (pe_bltn (v := .ty "str") (by rfl) z.str (by decide +kernel) rfl) pa_nil))) (pe_one (pe_cmpR op_in_seq (pv 0) (pe_glob (v := .ref aE) (by rfl) Z.e rfl) (by rfl)))))), ?_⟩
    rcases hx with ⟨y, rfl, rfl⟩ | ⟨rfl, t, ty, kt⟩
    · exact ⟨_, rfl, _, .ty "str", _, _, true, rfl, .ty _, .base (.str _), kit_ty (by decide +kernel), _, rfl, iteT ⟨_, rfl, aE, _, rfl, .inr (Z.eT _), rfl, rfl, q⟩⟩
    · exact ⟨_, rfl, _, .ty "str", _, _, false, rfl, .ty _, ty, kit_ty kt, _, rfl, iteF q⟩
theorem sc_Form___init__ : FnScope ["self", "width", "point", "manner", "ends"] ["self", "width", "point", "manner", "ends"] (defScope s_Form___init__) := ⟨rfl, rfl, rfl, by decide +kernel, rfl, by decide +kernel, by decide +kernel⟩
theorem ok_Form___init__ {f : Addr} {fd : FuncData} {dM C : Addr} (T : FTxt K mg C) {dvs : List V} {CB fI : Addr} (EC : PySem.ErrX.ErrC K mg "BadForm" CB) (IO : PySem.ErrX.IniOk P w K mg CB fI "part") (F : FunD K "__init__" "Form.__init__" (defArgs s_Form___init__) (defBody s_Form___init__) (defScope s_Form___init__) dvs [] f fd) (c_is_width : Cal P w K mg base 2 "is_width" ["thing"] (sp1 (WidthIs K))) (c_is_point : Cal P w K mg base 2 "is_point" ["thing"] (sp1 (PointIs K))) (c_is_manner : Cal P w K mg base 1 "is_manner" ["thing"] (spManner K dM)) (c_is_ends : Cal P w K mg base 1 "is_ends" ["thing"] (sp1 (EndsIs K))) : FnOk P w K mg base (L2.CX P w) 3 f fd ["self", "width", "point", "manner", "ends"] (spInitB K dM C CB) := by
  refine F.ok (CX := L2.CX P w) sc_Form___init__ (fun vs H Q E h => ?_) (fun cdv A outer s H vs Q E hr h => ?_)
  · obtain ⟨p, dx, x1, x2, x3, x4, b1, b2, b3, b4, rfl, _⟩ := h
    rfl
  · obtain ⟨p, dx, x1, x2, x3, x4, b1, b2, b3, b4, rfl, hp, h1, h2, h3, h4, q, qq⟩ := h
    refine ⟨_, (pss_cons (ps_if (pt_not (pt_val (pe_cal c_is_width hr (pa_cons (pv 1) pa_nil)))) (pss_one (ps_raiseErr rfl EC IO hr (takes_of rfl rfl rfl rfl) (by exact (pa_cons pe_str pa_nil)))) pss_nil)
      (pss_cons (ps_if (pt_not (pt_val (pe_cal c_is_point hr (pa_cons (pv 2) pa_nil)))) (pss_one (ps_raiseErr rfl EC IO hr (takes_of rfl rfl rfl rfl) (by exact (pa_cons pe_str pa_nil)))) pss_nil)
      (pss_cons (ps_if (pt_not (pt_val (pe_cal c_is_manner hr (pa_cons (pv 3) pa_nil)))) (pss_one (ps_raiseErr rfl EC IO hr (takes_of rfl rfl rfl rfl) (by exact (pa_cons pe_str pa_nil)))) pss_nil)
      (pss_cons (ps_if (pt_not (pt_val (pe_cal c_is_ends hr (pa_cons (pv 4) pa_nil)))) (pss_one (ps_raiseErr rfl EC IO hr (takes_of rfl rfl rfl rfl) (by exact (pa_cons pe_str pa_nil)))) pss_nil)
      (pss_cons (ps_fld (pv 0) (pv 1) rfl)
      (pss_cons (ps_fld (pv 0) (pv 2) rfl)
      (pss_cons (ps_fld (pv 0) (pv 3) rfl)
      (pss_one (ps_fld (pv 0) (pv 4) rfl))))))))), ?_⟩
    cases b1 with
    | false => exact ⟨_, rfl, x1, _, rfl, h1, _, rfl, iteT ⟨_, rfl, .inl ⟨_, rfl, by decide⟩, q rfl⟩⟩
    | true =>
      refine ⟨_, rfl, x1, _, rfl, h1, _, rfl, iteF ?_⟩
      cases b2 with
      | false => exact ⟨_, rfl, x2, _, rfl, h2, _, rfl, iteT ⟨_, rfl, .inl ⟨_, rfl, by decide⟩, q rfl⟩⟩
      | true =>
        refine ⟨_, rfl, x2, _, rfl, h2, _, rfl, iteF ?_⟩
        cases b3 with
        | false => exact ⟨_, rfl, x3, _, rfl, h3, _, rfl, iteT ⟨_, rfl, .inl ⟨_, rfl, by decide⟩, q rfl⟩⟩
        | true =>
          refine ⟨_, rfl, x3, _, rfl, h3, _, rfl, iteF ?_⟩
          cases b4 with
          | false => exact ⟨_, rfl, x4, _, rfl, h4, _, rfl, iteT ⟨_, rfl, .inl ⟨_, rfl, by decide⟩, q rfl⟩⟩
          | true =>
            refine ⟨_, rfl, x4, _, rfl, h4, _, rfl, iteF ?_⟩
            obtain ⟨w, rfl, hw⟩ : ∃ w, x1 = wV w ∧ WOk w := by
              rcases h1 with ⟨w, e, hw, _⟩ | ⟨_, _, _, e⟩ | ⟨e, _⟩
              · exact ⟨w, e, hw⟩
              · cases e
              · cases e
            obtain ⟨pt, rfl, k0, k1⟩ : ∃ pt, x2 = .int pt ∧ -64 ≤ pt ∧ pt ≤ 64 := by
              rcases h2 with ⟨n, e, e2⟩ | ⟨e, _⟩
              · exact ⟨n, e, of_decide_eq_true e2.symm⟩
              · cases e
            obtain ⟨m, rfl⟩ : ∃ m : Mn, x3 = .str m.str := by
              rcases h3 with ⟨m, e, _⟩ | ⟨_, _, _, e⟩ | ⟨e, _⟩
              · exact ⟨m, e⟩
              · cases e
              · cases e
            obtain ⟨st, rfl⟩ : ∃ st : Bool, x4 = .str (endS st) := by
              rcases h4 with ⟨z, e, e2⟩ | ⟨e, _⟩
              · obtain ⟨st, e3⟩ := ends_in e2.symm
                exact ⟨st, by rw [e, e3]⟩
              · cases e
            clear h1 h2 h3 h4 q
            refine ⟨_, rfl, _, rfl, p, C, dx, [], rfl, hp, T.cl, T.nW, (by show 0 < 1000; decide), ?_⟩
            refine ⟨_, rfl, _, rfl, p, C, dx, _, rfl, upd_same, T.cl, T.nP, (by show 1 < 1000; decide), ?_⟩
            refine ⟨_, rfl, _, rfl, p, C, dx, _, rfl, upd_same, T.cl, T.nM, ?_, ?_⟩
            · simp only [putF, if_neg (ne_of_beq nPW)]
              show 2 < 1000
              decide
            refine ⟨_, rfl, _, rfl, p, C, dx, _, rfl, upd_same, T.cl, T.nE, ?_, ?_⟩
            · simp only [putF, if_neg (ne_of_beq nPW), if_neg (ne_of_beq nMW), if_neg (ne_of_beq nMP)]
              show 3 < 1000
              decide
            refine qq w pt m st rfl rfl rfl rfl _ ⟨⟨dx, ?_⟩, hw, k0, k1⟩ (fun b o hb e => ?_)
            · rw [upd_same]
              exact congrArg (fun l => some (HO.ins C dx l)) fl_put
            · rw [upd_ne hb, upd_ne hb, upd_ne hb, upd_ne hb]
              exact e
end
end E1

namespace E1
open PySem PySem.Spec PyProof.Rows L2
/-! ### str, repr and == by own methods -/
section
variable {X : Cx} {k : Nat} {C f : Addr} {fd : FuncData} {ps : List Str} {sp : Sp}
theorem run_own {pins : List (Addr × Obj)} {σ : L2.St} {H : Hp} {s : Shared} {A' : Around} {Q : VK} {us : List Value} {vs : List V} (F : FnOk X.prog X.w X.K X.mg X.base CX0 k f fd ps sp) (rm : Room k A') (fr : A'.frames = X.A.frames) (hb : Binds X.K fd ps []) (I : Inv X pins σ H s) (r : Vals vs us) (h : sp vs H Q E0) :
    wpAny (model X.prog X.w) A' (call (.ref f) us) (EP X pins σ Q) X.xe s := by
  have e0 : Env0 X.prog X.w X.K X.mg X.base A' X.stack s H := { I.env0 with frames := by rw [fr]; exact I.env0.frames }
  have hl : us.length = ps.length := by rw [← r.length]; exact F.len _ _ _ _ h
  have bb := hb s us I.kIn (by rw [List.append_nil]; exact hl)
  rw [List.append_nil] at bb
  refine wpAny_call (codeAny_mono (F.run A' X.stack s H ⟨us, []⟩ us vs Q E0 rm e0 bb r h) fun r s' hq => ?_)
  match r, hq with
  | .error e, hq => exact (show False from hq).elim
  | .ok (.ret u), hq => exact I.after hq
  | .ok .next, hq => exact hq.elim
  | .ok .brk, hq => exact hq.elim
  | .ok .cont, hq => exact hq.elim
/-- what the written part says of an own method -/
structure OwnM (K : PySem.W.Frag) (C : Addr) (m : Str) (f : Addr) : Prop where
  find : PySem.W.findIn K (.ref C) m = some (some (.ref f))
  fn : PySem.W.isFn K (.ref f) = true
def rOwnS (C : Addr) (sp : Sp) : List V → Hp → VK → Prop := fun xs H Q => ∃ (a dx : Addr) (fs : List (Str × V)), xs = [.ref a] ∧ H a = some (.ins C dx fs) ∧ sp [.ref a] H (fun v H2 => ∃ y, v = .str y ∧ Q (.str y) H2) E0
theorem call_strO {j : Nat} (F : FnOk X.prog X.w X.K X.mg X.base CX0 k f fd ps sp) (hb : Binds X.K fd ps []) (M : OwnM X.K C "__str__" f) (hr : Room j X.A) (hle : k + 2 ≤ j := by decide) : CallR X (.type "str") (rOwnS C sp) := by
  intro pins s σ H xs us Q I r h
  obtain ⟨a, dx, fs, rfl, ha, q⟩ := h
  cases r with
  | cons ra rn =>
    cases rn
    cases ra
    obtain ⟨mA, J, _⟩ := ins_get I.hok ha
    obtain ⟨od, J, _⟩ := J.look
    have rm : Room k X.A.in1.in1 := (hr.mono hle).in1.in1
    refine PySem.W.kso_call rm.units0 I.kIn J M.find M.fn (wpAny_mono (run_own (vs := [.ref a]) F rm rfl hb I (.cons rfl .nil) q) (fun v s' hv => ?_) fun _ _ e => e)
    obtain ⟨x, H2, I2, rx, y, rfl, q2⟩ := hv
    obtain ⟨t, rfl⟩ := rx
    exact ⟨.str y, H2, I2, ⟨t, rfl⟩, q2⟩
theorem call_reprO {j : Nat} (F : FnOk X.prog X.w X.K X.mg X.base CX0 k f fd ps sp) (hb : Binds X.K fd ps []) (M : OwnM X.K C "__repr__" f) (hr : Room j X.A) (hle : k + 1 ≤ j := by decide) : CallR X (.builtin "repr") (rOwnS C sp) := by
  intro pins s σ H xs us Q I r h
  obtain ⟨a, dx, fs, rfl, ha, q⟩ := h
  cases r with
  | cons ra rn =>
    cases rn
    cases ra
    obtain ⟨mA, J, _⟩ := ins_get I.hok ha
    obtain ⟨od, J, _⟩ := J.look
    obtain ⟨m, hF⟩ := I.fr
    have rm : Room k X.A.in1 := (hr.mono hle).in1
    refine PySem.W.repr_K rm.units0 hF I.ok.mod.kin J M.find M.fn (wpAny_mono (run_own (vs := [.ref a]) F rm rfl hb I (.cons rfl .nil) q) (fun v s' hv => ?_) fun _ _ e => e)
    obtain ⟨x, H2, I2, rx, y, rfl, q2⟩ := hv
    obtain ⟨t, rfl⟩ := rx
    exact ⟨.str y, H2, I2, ⟨t, rfl⟩, q2⟩
/-- what stands right of ==: its type is no class under C -/
def RgtV (K : PySem.W.Frag) (C : Addr) (H : Hp) (y : V) : Prop := (∃ b dx fs, y = .ref b ∧ H b = some (.ins C dx fs)) ∨ (y = .non ∧ PySem.W.notFirst K C (.type "NoneType") = true) ∨ (∃ z, y = .str z ∧ PySem.W.notFirst K C (.type "str") = true) ∨
  (∃ b xs, y = .ref b ∧ H b = some (.lst xs) ∧ PySem.W.notFirst K C (.type "list") = true) ∨ (∃ b xs, y = .ref b ∧ H b = some (.tup xs) ∧ PySem.W.notFirst K C (.type "tuple") = true)
def rOwnE (K : PySem.W.Frag) (C : Addr) (sp : Sp) : R2 := fun x y H Q => ∃ (a dx : Addr) (fs : List (Str × V)), x = .ref a ∧ H a = some (.ins C dx fs) ∧ RgtV K C H y ∧ sp [.ref a, y] H (fun v H2 => ∃ b, v = .bl b ∧ Q (.bl b) H2) E0
theorem op_eqO (F : FnOk X.prog X.w X.K X.mg X.base CX0 k f fd ps sp) (hb : Binds X.K fd ps []) (M : OwnM X.K C "__eq__" f) {j : Nat} (hr : Room j X.A) (hle : k ≤ j := by decide) : OpR X (compareOp .Eq) (rOwnE X.K C sp) := by
  intro pins s σ H x y v u Q I rx ry h
  obtain ⟨a, dx, fs, rfl, ha, hy, q⟩ := h
  cases rx
  obtain ⟨mA, J, _⟩ := ins_get I.hok ha
  obtain ⟨od, J, _⟩ := J.look
  obtain ⟨m, hF⟩ := I.fr
  have ty : ∃ tb, PySem.W.Looks (model X.prog X.w) s.heap (typeOf u) tb ∧ PySem.W.notFirst X.K C tb = true := by
    rcases hy with ⟨b, dy, gs, rfl, hb⟩ | ⟨rfl, n⟩ | ⟨z, rfl, n⟩ | ⟨b, xs, rfl, hb, n⟩ | ⟨b, xs, rfl, hb, n⟩
    · cases ry
      obtain ⟨mB, J', _⟩ := ins_get I.hok hb
      obtain ⟨od', J', _⟩ := J'.look
      exact ⟨.ref C, J'.type, by simp [PySem.W.notFirst]⟩
    · cases ry
      exact ⟨_, .of_pure rfl, n⟩
    · obtain ⟨t, rfl⟩ := ry
      exact ⟨_, .of_pure rfl, n⟩
    · cases ry
      obtain ⟨_, its, nn, _, e⟩ := (show ObjOk X.prog X.w H s.heap b (.lst xs) from I.hok b _ hb)
      exact ⟨_, (PySem.W.Looks.ld e).andThen .now, n⟩
    · cases ry
      obtain ⟨its, r, e, z⟩ := I.tuple (.inl (.inl hb))
      obtain ⟨ob, oe, oc, _⟩ := e
      exact ⟨_, (PySem.W.Looks.ld oe).andThen .now, by rw [oc]; exact n⟩
  obtain ⟨tb, L, nf⟩ := ty
  refine PySem.W.cmp_ofEq (PySem.W.cmp_K (op := .Eq) (hr.mono hle).units0 hF I.ok.mod.kin J L nf M.find M.fn (wpAny_mono (run_own (vs := [.ref a, y]) F (hr.mono hle) rfl hb I (.cons rfl (.cons ry .nil)) q) (fun v s' hv => ?_) fun _ _ e => e))
  obtain ⟨x, H2, I2, rx, b, rfl, q2⟩ := hv
  cases rx
  exact ⟨.bl b, H2, I2, rfl, q2⟩
end
theorem call_str_non {X : Cx} : CallR X (.type "str") (fun xs H Q => xs = [.non] ∧ Q (.str "None") H) := by
  intro pins s σ H xs us Q I r h
  obtain ⟨rfl, q⟩ := h
  cases r with
  | cons ra rn =>
    cases rn
    cases ra
    exact P.str_of_none ⟨.str "None", H, I.tok _, ⟨_, rfl⟩, q⟩
/-- {x} of None, an int or a text -/
def tFmtN (te : TE) : TE := fun σ H Q => te σ H fun x H1 => (x = .non ∧ Q (.str "None") H1) ∨ ∃ i : Int, x = .int i ∧ i.natAbs.log2 < 1920 ∧ Q (.str (toString i)) H1
theorem pe_fmtN {X : Cx} {e : Expr} {te : TE} {pos : Pos} (he : PE X e te) : PE X (.FormattedValue e (-1) none pos) (tFmtN te) := by
  refine ⟨fun pins s σ H Q I h => ?_⟩
  refine wpAny_FormattedValue_plain (thn (he.run pins s σ H _ I h) fun v s1 ⟨x, H1, I1, r1, q⟩ => ?_)
  rcases q with ⟨rfl, q⟩ | ⟨i, rfl, hz, q⟩
  · cases r1
    exact wpAny_formatField_none ⟨.str "None", H1, I1.tok _, ⟨_, rfl⟩, q⟩
  · obtain ⟨t, rfl⟩ := r1
    exact wpAny_formatField_int hz ⟨.str (toString i), H1, I1.tok _, ⟨_, rfl⟩, q⟩

end E1

namespace E1
open PySem PySem.Spec PyProof.Rows L2

theorem qt {p : Prop} [Decidable p] {Q : VK} {H : Hp} (h : p) (q : Q (.bl true) H) : Q (.bl (decide p)) H := (congrArg (fun c => Q (.bl c) H) (decide_eq_true h)).mpr q
theorem small1000' {n : Nat} (h : n ≤ 1000) : n < sizeLine := Nat.lt_of_le_of_lt h (by decide)
/-- what else the written part says of the class -/
structure FX (K : PySem.W.Frag) (mg : Str → Option Value) (C : Addr) : Prop where
  gC : mg "Form" = some (.ref C)
  ha : PySem.W.findIn K (.ref C) "__class__" = some (some (.builtin "object.__class__"))
  hn : PySem.W.specialIn K (.builtin "object.__class__") "__get__" = some (some (.builtin "getset_descriptor.__get__"))
  ht : PySem.W.takesIn K (.builtin "object.__class__") = some true
  hm : PySem.W.mroIn K C (.type "object") = some true
  kC : PySem.W.kitOne K (.ref C) (.ref C) = some true
  kI : PySem.W.kitOne K (.ref C) (.type "str") = some false
  kS : PySem.W.kitOne K (.type "str") (.ref C) = some false
  kL : PySem.W.kitOne K (.type "list") (.ref C) = some false
  kT : PySem.W.kitOne K (.type "tuple") (.ref C) = some false
  kN : PySem.W.kitOne K (.type "NoneType") (.ref C) = some false
  nS : PySem.W.notFirst K C (.type "str") = true
  nL : PySem.W.notFirst K C (.type "list") = true
  nT : PySem.W.notFirst K C (.type "tuple") = true
  nN : PySem.W.notFirst K C (.type "NoneType") = true
theorem scal_w (a b : Option Int) : scal (wV a) (wV b) = true := by cases a <;> cases b <;> rfl
theorem wV_inj {a b : Option Int} (h : wV a = wV b) : a = b := by
  cases a <;> cases b
  · rfl
  · cases h
  · cases h
  · exact congrArg some (V.int.inj h)
theorem mstr_inj {a b : Mn} (h : a.str = b.str) : a = b := by
  revert h
  cases a <;> cases b <;> first | (intro _; rfl) | (intro h; exact absurd h (by decide +kernel))
theorem endS_inj {a b : Bool} (h : endS a = endS b) : a = b := by
  revert h
  cases a <;> cases b <;> first | (intro _; rfl) | (intro h; exact absurd h (by decide +kernel))
/-- two forms alike -/
def alikeB (w w2 : Option Int) (pt pt2 : Int) (m m2 : Mn) (st st2 : Bool) : Bool := decide (wV w = wV w2) && (decide (V.int pt = V.int pt2) && (decide (V.str m.str = V.str m2.str) && decide (V.str (endS st) = V.str (endS st2))))
def spEqF (K : PySem.W.Frag) (C : Addr) : Sp := fun vs H Q _ => ∃ (p : Addr) (w : Option Int) (pt : Int) (m : Mn) (st : Bool) (x : V), vs = [.ref p, x] ∧ FormAt C H p w pt m st ∧
  ((∃ (p2 : Addr) (w2 : Option Int) (pt2 : Int) (m2 : Mn) (st2 : Bool), x = .ref p2 ∧ FormAt C H p2 w2 pt2 m2 st2 ∧ Q (.bl (alikeB w w2 pt pt2 m m2 st st2)) H) ∨ (∃ t, TyX K H x t ∧ PySem.W.kitOne K t (.ref C) = some false ∧ Q (.bl false) H))
def wS : Option Int → Str
  | none => "None"
  | some x => Str.ofString (toString x)
/-- what str and repr tell -/
def strF (w : Option Int) (pt : Int) (m : Mn) (st : Bool) : Str := match w with
  | none => Str.empty ++ "free." ++ Str.ofString (toString pt) ++ " " ++ m.str ++ " " ++ endS st
  | some x => Str.empty ++ Str.ofString (toString x) ++ "." ++ Str.ofString (toString pt) ++ " " ++ m.str ++ " " ++ endS st
def repF (w : Option Int) (pt : Int) (m : Mn) (st : Bool) : Str := Str.empty ++ "Form(" ++ wS w ++ ", " ++ Str.ofString (toString pt) ++ ", " ++ reprText m.str ++ ", " ++ reprText (endS st) ++ ")"
def spStrF (C : Addr) : Sp := spF C fun w pt m st H Q => Q (.str (strF w pt m st)) H
def spRepF (C : Addr) : Sp := spF C fun w pt m st H Q => Q (.str (repF w pt m st)) H
section
variable {P : Program} {w : World} {K : PySem.W.Frag} {mg : Str → Option Value} {base : Heap}
theorem sc_Form___eq__ : FnScope ["self", "other"] ["self", "other"] (defScope s_Form___eq__) := ⟨rfl, rfl, rfl, by decide +kernel, rfl, by decide +kernel, by decide +kernel⟩
theorem ok_Form___eq__ {f : Addr} {fd : FuncData} {k : Nat} {C : Addr} (T : FTxt K mg C) (X : FX K mg C) (F : Fun K "__eq__" "Form.__eq__" s_Form___eq__ f fd) (z : Zs mg) : FnOk P w K mg base CX0 (k + 1) f fd ["self", "other"] (spEqF K C) := by
  refine F.ok sc_Form___eq__ (fun vs H Q E h => ?_) (fun cdv A outer s H vs Q E hr h => ?_)
  · obtain ⟨p, w, pt, m, st, x, rfl, _⟩ := h
    rfl
  · obtain ⟨p, w, pt, m, st, x, rfl, hf, h⟩ := h
    obtain ⟨⟨dx, ho⟩, hw, h0, h1⟩ := id hf
    refine ⟨_, (pss_one (ps_ret (pe_and (pe_callB call_isi (by rfl) z.isinstance (by decide +kernel) (pa_cons (pv 1) (pa_cons (pe_glob (v := .ref C) (by rfl) X.gC rfl) pa_nil))) (pe_and (pe_cmpR op_eq (pe_fld (pv 0) rfl) (pe_fld (pv 1) rfl) (nomark _)) (pe_and (pe_cmpR op_eq (pe_fld (pv 0) rfl) (pe_fld (pv 1) rfl) (nomark _)) (pe_and (pe_cmpR op_eq (pe_fld (pv 0) rfl) (pe_fld (pv 1) rfl) (nomark _)) (pe_one (pe_cmpR op_eq (pe_fld (pv 0) rfl) (pe_fld (pv 1) rfl) (nomark _))))))))), ?_⟩
    rcases h with ⟨p2, w2, pt2, m2, st2, rfl, hf2, q⟩ | ⟨t, ty, kt, q⟩
    · obtain ⟨⟨dx2, ho2⟩, hw2, _, _⟩ := id hf2
      refine ⟨_, rfl, _, .ref C, .ref C, .ref C, true, rfl, .own C, .base (.ins ho2 T.cl X.ha X.hn X.ht X.hm), X.kC, _, rfl, iteT ?_⟩
      unfold alikeB at q
      refine ⟨_, rfl, p, C, dx, _, _, rfl, ho, T.cl, T.nW, fl_w, _, rfl, p2, C, dx2, _, _, rfl, ho2, T.cl, T.nW, fl_w, scal_w w w2, _, rfl, ?_⟩
      by_cases c1 : wV w = wV w2
      · rw [decide_eq_true c1] at q ⊢
        rw [Bool.true_and] at q
        refine iteT ⟨_, rfl, p, C, dx, _, _, rfl, ho, T.cl, T.nP, fl_p, _, rfl, p2, C, dx2, _, _, rfl, ho2, T.cl, T.nP, fl_p, rfl, _, rfl, ?_⟩
        by_cases c2 : V.int pt = V.int pt2
        · rw [decide_eq_true c2] at q ⊢
          rw [Bool.true_and] at q
          refine iteT ⟨_, rfl, p, C, dx, _, _, rfl, ho, T.cl, T.nM, fl_m, _, rfl, p2, C, dx2, _, _, rfl, ho2, T.cl, T.nM, fl_m, rfl, _, rfl, ?_⟩
          by_cases c3 : V.str m.str = V.str m2.str
          · rw [decide_eq_true c3] at q ⊢
            rw [Bool.true_and] at q
            exact iteT ⟨_, rfl, p, C, dx, _, _, rfl, ho, T.cl, T.nE, fl_e, _, rfl, p2, C, dx2, _, _, rfl, ho2, T.cl, T.nE, fl_e, rfl, q⟩
          · rw [decide_eq_false c3] at q ⊢
            exact iteF q
        · rw [decide_eq_false c2] at q ⊢
          exact iteF q
      · rw [decide_eq_false c1] at q ⊢
        exact iteF q
    · exact ⟨_, rfl, _, .ref C, t, .ref C, false, rfl, .own C, ty, kt, _, rfl, iteF q⟩
theorem sc_Form___str__ : FnScope ["self"] ["self"] (defScope s_Form___str__) := ⟨rfl, rfl, rfl, by decide +kernel, rfl, by decide +kernel, by decide +kernel⟩
theorem lg {i : Int} (h0 : -64 ≤ i) (h1 : i ≤ 64) : i.natAbs.log2 < 1920 := by
  have : i.natAbs.log2 ≤ i.natAbs := Nat.log2_le_self _
  omega
theorem ts_len {i : Int} (h0 : -64 ≤ i) (h1 : i ≤ 64) : (Str.ofString (toString i)).length ≤ 3 := by
  have key : ∀ n : Fin 129, (Str.ofString (toString (((n : Nat) : Int) - 64))).length ≤ 3 := by decide +kernel
  have := key ⟨(i + 64).toNat, by omega⟩
  rwa [show ((((⟨(i + 64).toNat, by omega⟩ : Fin 129) : Nat) : Int) - 64) = i by show (((i + 64).toNat : Nat) : Int) - 64 = i; omega] at this
theorem m_len (m : Mn) : m.str.length ≤ 4 := by cases m <;> decide +kernel
theorem e_len (st : Bool) : (endS st).length ≤ 4 := by cases st <;> decide +kernel
theorem rm_len (m : Mn) : (reprText m.str).length ≤ 6 := by cases m <;> decide +kernel
theorem re_len (st : Bool) : (reprText (endS st)).length ≤ 6 := by cases st <;> decide +kernel
theorem le0 : Str.empty.length = 0 := rfl
theorem le1 : (Str.ofString "free.").length = 5 := by decide +kernel
theorem le2 : (Str.ofString " ").length = 1 := by decide +kernel
theorem le3 : (Str.ofString ".").length = 1 := by decide +kernel
theorem le4 : (Str.ofString "Form(").length = 5 := by decide +kernel
theorem le5 : (Str.ofString ", ").length = 2 := by decide +kernel
theorem le6 : (Str.ofString ")").length = 1 := by decide +kernel
theorem le7 : (Str.ofString "None").length = 4 := by decide +kernel
theorem ok_Form___str__ {f : Addr} {fd : FuncData} {k : Nat} {C : Addr} (T : FTxt K mg C) (F : Fun K "__str__" "Form.__str__" s_Form___str__ f fd) : FnOk P w K mg base CX0 (k + 1) f fd ["self"] (spStrF C) := by
  refine F.ok sc_Form___str__ (fun vs H Q E h => ?_) (fun cdv A outer s H vs Q E hr h => ?_)
  · obtain ⟨p, w, pt, m, st, rfl, _⟩ := h
    rfl
  · obtain ⟨p, w, pt, m, st, rfl, ⟨⟨dx, ho⟩, hw, h0, h1⟩, q⟩ := h
    refine ⟨_, (pss_cons (ps_if (pt_cmpR op_isN (pe_fld (pv 0) rfl) pe_non (nomark _)) (pss_one (ps_ret (pe_joined (.cons pe_str (.cons (pe_fmt (pe_fld (pv 0) rfl)) (.cons pe_str (.cons (pe_fmt (pe_fld (pv 0) rfl)) (.cons pe_str (.cons (pe_fmt (pe_fld (pv 0) rfl)) .nil))))))))) pss_nil)
      (pss_one (ps_ret (pe_joined (.cons (pe_fmtN (pe_fld (pv 0) rfl)) (.cons pe_str (.cons (pe_fmt (pe_fld (pv 0) rfl)) (.cons pe_str (.cons (pe_fmt (pe_fld (pv 0) rfl)) (.cons pe_str (.cons (pe_fmt (pe_fld (pv 0) rfl)) .nil))))))))))), ?_⟩
    have a1 := ts_len h0 h1
    have a2 := m_len m
    have a3 := e_len st
    have a4 := rm_len m
    have a5 := re_len st
    refine ⟨_, rfl, p, C, dx, _, _, rfl, ho, T.cl, T.nW, fl_w, rfl, _, rfl, ?_⟩
    cases w with
    | none => exact iteT ⟨_, rfl, (by simp only [Str.length_append, le0, le1, le2, le3, le4, le5, le6, le7]; exact Nat.le_of_lt (small1000' (by omega))), _, rfl, p, C, dx, _, _, rfl, ho, T.cl, T.nP, fl_p, .inr ⟨_, rfl, lg h0 h1, _, rfl, (by simp only [Str.length_append, le0, le1, le2, le3, le4, le5, le6, le7]; exact Nat.le_of_lt (small1000' (by omega))), _, rfl, (by simp only [Str.length_append, le0, le1, le2, le3, le4, le5, le6, le7]; exact Nat.le_of_lt (small1000' (by omega))), _, rfl, p, C, dx, _, _, rfl, ho, T.cl, T.nM, fl_m, .inl ⟨_, rfl, Nat.le_of_lt (small1000' (by omega)), _, rfl, (by simp only [Str.length_append, le0, le1, le2, le3, le4, le5, le6, le7]; exact Nat.le_of_lt (small1000' (by omega))), _, rfl, (by simp only [Str.length_append, le0, le1, le2, le3, le4, le5, le6, le7]; exact Nat.le_of_lt (small1000' (by omega))), _, rfl, p, C, dx, _, _, rfl, ho, T.cl, T.nE, fl_e, .inl ⟨_, rfl, Nat.le_of_lt (small1000' (by omega)), _, rfl, (by simp only [Str.length_append, le0, le1, le2, le3, le4, le5, le6, le7]; exact Nat.le_of_lt (small1000' (by omega))), q⟩⟩⟩⟩
    | some x =>
      obtain ⟨x0, x1⟩ := hw x rfl
      have a0 := ts_len (i := x) (by omega) x1
      exact iteF ⟨_, rfl, p, C, dx, _, _, rfl, ho, T.cl, T.nW, fl_w, .inr ⟨_, rfl, lg (by omega) x1, _, rfl, (by simp only [Str.length_append, le0, le1, le2, le3, le4, le5, le6, le7]; exact Nat.le_of_lt (small1000' (by omega))), _, rfl, (by simp only [Str.length_append, le0, le1, le2, le3, le4, le5, le6, le7]; exact Nat.le_of_lt (small1000' (by omega))), _, rfl, p, C, dx, _, _, rfl, ho, T.cl, T.nP, fl_p, .inr ⟨_, rfl, lg h0 h1, _, rfl, (by simp only [Str.length_append, le0, le1, le2, le3, le4, le5, le6, le7]; exact Nat.le_of_lt (small1000' (by omega))), _, rfl, (by simp only [Str.length_append, le0, le1, le2, le3, le4, le5, le6, le7]; exact Nat.le_of_lt (small1000' (by omega))), _, rfl, p, C, dx, _, _, rfl, ho, T.cl, T.nM, fl_m, .inl ⟨_, rfl, Nat.le_of_lt (small1000' (by omega)), _, rfl, (by simp only [Str.length_append, le0, le1, le2, le3, le4, le5, le6, le7]; exact Nat.le_of_lt (small1000' (by omega))), _, rfl, (by simp only [Str.length_append, le0, le1, le2, le3, le4, le5, le6, le7]; exact Nat.le_of_lt (small1000' (by omega))), _, rfl, p, C, dx, _, _, rfl, ho, T.cl, T.nE, fl_e, .inl ⟨_, rfl, Nat.le_of_lt (small1000' (by omega)), _, rfl, (by simp only [Str.length_append, le0, le1, le2, le3, le4, le5, le6, le7]; exact Nat.le_of_lt (small1000' (by omega))), q⟩⟩⟩⟩⟩
end
end E1

namespace E1
open PySem PySem.Spec PyProof.Rows L2
/-! ### texts of whole numbers -/
open PySem.NumText in
/-- written with figures alone, at most four hundred, no nought ahead -/
def figs (l : List Nat) : Bool := !(l == [] || decide (400 < l.length) || (l.head? == some 48 && l != [48])) && l.all fun c => decide (48 ≤ c) && decide (c ≤ 57)
def numb (l : List Nat) : Bool := figs l || (l.take 1 == [45] && figs (l.drop 1) && l != [45, 48])
def valL (l : List Nat) : Int := if l.head? = some 45 then -((NumText.digitsVal (l.drop 1) : Nat) : Int) else ((NumText.digitsVal l : Nat) : Int)
def wholeL (l : List Nat) : Option Int := if numb l = true then some (valL l) else none
/-- a whole number's text -/
def itx (n : Int) : List Nat := if n < 0 then 45 :: TL.numL n.natAbs else TL.numL n.natAbs
theorem tl_int (n : Int) : TL.tl (Str.ofString (toString n)) = itx n := by
  unfold itx
  cases n with
  | ofNat m => 
    rw [if_neg (show ¬ Int.ofNat m < 0 from Int.not_lt.mpr (Int.natCast_nonneg m))]
    exact TL.tl_num m
  | negSucc m =>
    rw [if_pos (by omega), TL.tl_ofString]
    have e : (toString (Int.negSucc m)).toList = '-' :: (toString (m + 1)).toList := by
      show ("-" ++ toString (m + 1)).toList = _
      rw [String.toList_append]
      rfl
    rw [e, List.map_cons]
    have h := TL.tl_num (m + 1)
    rw [TL.tl_ofString] at h
    exact congrArg (45 :: ·) h
theorem int_itx (n : Int) : Str.ofString (toString n) = SX.S (itx n) := TL.ext_tl (tl_int n)
theorem numL_back {l : List Nat} (h : NumText.AllDigits l) (hne : l ≠ []) (h0 : l = [48] ∨ l.head? ≠ some 48) : TL.numL (NumText.digitsVal l) = l := by
  unfold TL.numL
  rw [NumText.toDigits_digitsVal (l.length - 1) l (by cases l with | nil => exact absurd rfl hne | cons _ _ => rfl) h ?_, List.map_map]
  · have : ∀ c ∈ l, (Char.toNat ∘ Char.ofNat) c = c := fun c hc => by
      obtain ⟨a, b⟩ := h c hc
      have key : ∀ k : Fin 10, (Char.ofNat (48 + k.val)).toNat = 48 + k.val := by decide
      have := key ⟨c - 48, by omega⟩
      simp only [show 48 + (c - 48) = c by omega] at this
      exact this
    rw [List.map_congr_left this, List.map_id']
  · cases l with
    | nil => exact absurd rfl hne
    | cons c r =>
      rcases h0 with e | e
      · cases e
        exact .inl rfl
      · refine .inr ⟨c, r, rfl, ?_⟩
        have := (h c (List.mem_cons_self ..)).1
        have : c ≠ 48 := fun z => e (by rw [z]; rfl)
        omega
theorem fold_lt : ∀ (l : List Nat) (a : Nat), NumText.AllDigits l → l.foldl (fun acc c => acc * 10 + (c - 48)) a < (a + 1) * 10 ^ l.length
  | [], a, _ => by simp
  | c :: r, a, h => by
    have hc := h.head
    have ih := fold_lt r (a * 10 + (c - 48)) h.tail
    rw [List.foldl_cons, List.length_cons]
    rw [Nat.pow_succ]
    refine Nat.lt_of_lt_of_le ih ?_
    have : a * 10 + (c - 48) + 1 ≤ (a + 1) * 10 := by omega
    calc (a * 10 + (c - 48) + 1) * 10 ^ r.length ≤ (a + 1) * 10 * 10 ^ r.length := Nat.mul_le_mul_right _ this
      _ = (a + 1) * (10 ^ r.length * 10) := by rw [Nat.mul_assoc, Nat.mul_comm 10]
theorem digits_lt (l : List Nat) (h : NumText.AllDigits l) : NumText.digitsVal l < 10 ^ l.length := by
  have := fold_lt l 0 h
  rw [Nat.zero_add, Nat.one_mul] at this
  exact this
theorem numL_not {r : List Nat} (h : NumText.AllDigits r) (hne : r ≠ []) : TL.numL (NumText.digitsVal (48 :: r)) ≠ 48 :: r := fun e => by
  have d := digits_lt r h
  have l := TL.numL_len (n := NumText.digitsVal r) (k := r.length) (by cases r with | nil => exact absurd rfl hne | cons _ _ => exact Nat.succ_pos _) d
  rw [NumText.digitsVal_zero] at e
  rw [e, List.length_cons] at l
  omega

theorem all_dig {l : List Nat} : (l.all fun c => decide (48 ≤ c) && decide (c ≤ 57)) = true ↔ NumText.AllDigits l := by
  rw [List.all_eq_true]
  constructor
  · intro h c hc
    have := h c hc
    rw [Bool.and_eq_true, decide_eq_true_eq, decide_eq_true_eq] at this
    exact this
  · intro h c hc
    rw [Bool.and_eq_true]
    rw [decide_eq_true_eq, decide_eq_true_eq]
    exact h c hc
theorem figs_iff {l : List Nat} : figs l = true ↔ l ≠ [] ∧ l.length ≤ 400 ∧ (l = [48] ∨ l.head? ≠ some 48) ∧ NumText.AllDigits l := by
  unfold figs
  rw [Bool.and_eq_true, all_dig, Bool.not_eq_true', Bool.or_eq_false_iff, Bool.or_eq_false_iff, beq_eq_false_iff_ne, decide_eq_false_iff_not, Bool.and_eq_false_iff, beq_eq_false_iff_ne, bne_eq_false_iff_eq]
  constructor
  · rintro ⟨⟨⟨a, b⟩, c⟩, d⟩
    exact ⟨a, by omega, c.symm, d⟩
  · rintro ⟨a, b, c, d⟩
    exact ⟨⟨⟨a, by omega⟩, c.symm⟩, d⟩
/-- what the text is without its sign -/
def bare (l : List Nat) : List Nat := if l.head? = some 45 then l.drop 1 else l
/-- the figures, as the program asks for them -/
def figd (l : List Nat) : Prop := 1 ≤ (bare l).length ∧ (bare l).length ≤ 400 ∧ NumText.AllDigits (bare l)
theorem figd_len {l : List Nat} (h : figd l) : l.length ≤ 401 := by
  obtain ⟨_, h, _⟩ := h
  unfold bare at h
  split at h
  · rw [List.length_drop] at h
    omega
  · omega
theorem valL_int {l : List Nat} (h : figd l) : PySem.intText? (SX.S l) = some (valL l) := by
  have hl := figd_len h
  obtain ⟨h1, h2, h3⟩ := h
  have sl : (SX.S l).length ≤ 4300 := by rw [SX.S_len]; omega
  unfold valL
  unfold bare at h1 h2 h3
  by_cases c : l.head? = some 45
  · rw [if_pos c] at h1 h2 h3
    rw [if_pos c]
    match l, c with
    | x :: r, c =>
      cases c
      exact PySem.intText_neg (x := SX.S (45 :: r)) (cs := r) rfl h3 (fun z => by rw [z] at h1; exact absurd h1 (by decide)) sl
  · rw [if_neg c] at h1 h2 h3
    rw [if_neg c]
    exact PySem.intText_digits (x := SX.S l) h3 (fun z => by rw [show l = [] from z] at h1; exact absurd h1 (by decide)) sl
theorem not_figd {l : List Nat} (h : ¬ figd l) : numb l = false := by
  cases e : numb l with
  | false => rfl
  | true =>
    refine absurd ?_ h
    unfold numb at e
    rw [Bool.or_eq_true, Bool.and_eq_true, Bool.and_eq_true, beq_iff_eq] at e
    rcases e with e | ⟨⟨e1, e⟩, _⟩
    · obtain ⟨a, b, c, d⟩ := figs_iff.mp e
      have hb : bare l = l := by
        unfold bare
        rw [if_neg]
        intro z
        match l, z with
        | x :: r, z =>
          cases z
          have := d.head
          omega
      refine ⟨?_, ?_, ?_⟩
      · rw [hb]
        exact List.length_pos_iff.mpr a
      · rw [hb]
        exact b
      · rw [hb]
        exact d
    · obtain ⟨a, b, c, d⟩ := figs_iff.mp e
      have hb : bare l = l.drop 1 := by
        unfold bare
        rw [if_pos]
        match l, e1 with
        | x :: r, e1 =>
          cases e1
          rfl
      unfold figd
      rw [hb]
      exact ⟨List.length_pos_iff.mpr a, b, d⟩
theorem itx_nat (n : Nat) : itx (n : Int) = TL.numL n := by
  unfold itx
  rw [if_neg (by omega)]
  rfl
theorem figd_numb {l : List Nat} (h : figd l) : (itx (valL l) = l) ↔ numb l = true := by
  obtain ⟨h1, h2, h3⟩ := h
  unfold bare at h1 h2 h3
  unfold valL numb
  by_cases c : l.head? = some 45
  · rw [if_pos c] at h1 h2 h3
    rw [if_pos c]
    match l, c with
    | x :: r, c =>
      cases c
      show itx (-((NumText.digitsVal r : Nat) : Int)) = 45 :: r ↔ (figs (45 :: r) || ([45] == [45] && figs r && (45 :: r) != [45, 48])) = true
      have r0 : r ≠ [] := fun z => by rw [z] at h1; exact absurd h1 (by decide)
      have f0 : figs (45 :: r) = false := by
        cases e : figs (45 :: r) with
        | false => rfl
        | true =>
          have := (figs_iff.mp e).2.2.2.head
          omega
      rw [f0, Bool.false_or, show (([45] : List Nat) == [45]) = true from rfl, Bool.true_and, Bool.and_eq_true, figs_iff, bne_iff_ne]
      by_cases z : NumText.digitsVal r = 0
      · rw [z]
        constructor
        · intro e
          have e2 : [48] = 45 :: r := e
          exact absurd (List.cons.inj e2).1 (by decide)
        · rintro ⟨⟨_, _, a, d⟩, b⟩
          rcases a with a | a
          · exact absurd (by rw [a]) b
          · have := numL_back d r0 (.inr a)
            rw [z] at this
            exact absurd (by rw [← this]; rfl) a
      · have e : itx (-((NumText.digitsVal r : Nat) : Int)) = 45 :: TL.numL (NumText.digitsVal r) := by
          unfold itx
          rw [if_pos (by omega), Int.natAbs_neg]
          rfl
        rw [e]
        constructor
        · intro q
          have q2 := (List.cons.inj q).2
          refine ⟨⟨r0, h2, ?_, h3⟩, fun w => ?_⟩
          · match r, r0 with
            | y :: s, _ =>
              by_cases y0 : y = 48
              · subst y0
                by_cases s0 : s = []
                · rw [s0]
                  exact .inl rfl
                · exact absurd q2 (numL_not h3.tail s0)
              · exact .inr (fun w => y0 (Option.some.inj w))
          · have := (List.cons.inj w).2
            rw [this] at z
            exact z rfl
        · rintro ⟨⟨_, _, a, d⟩, b⟩
          rw [numL_back d r0 a]
  · rw [if_neg c] at h1 h2 h3
    rw [if_neg c, itx_nat]
    have l0 : l ≠ [] := fun z => by rw [z] at h1; exact absurd h1 (by decide)
    have f1 : (l.take 1 == [45]) = false := by
      match l, l0 with
      | x :: r, _ =>
        cases e : ((x :: r).take 1 == [45]) with
        | false => rfl
        | true =>
          refine absurd ?_ c
          have := beq_iff_eq.mp e
          cases this
          rfl
    rw [f1, Bool.false_and, Bool.false_and, Bool.or_false, figs_iff]
    constructor
    · intro q
      refine ⟨l0, h2, ?_, h3⟩
      match l, l0 with
      | y :: s, _ =>
        by_cases y0 : y = 48
        · subst y0
          by_cases s0 : s = []
          · rw [s0]
            exact .inl rfl
          · exact absurd q (numL_not h3.tail s0)
        · exact .inr (fun w => y0 (Option.some.inj w))
    · rintro ⟨_, _, a, d⟩
      exact numL_back d l0 a
theorem valL_size {l : List Nat} (h : figd l) : (valL l).natAbs < 10 ^ 400 := by
  obtain ⟨h1, h2, h3⟩ := h
  have d := digits_lt _ h3
  have e : (valL l).natAbs = NumText.digitsVal (bare l) := by
    unfold valL bare
    split
    · rw [Int.natAbs_neg]
      rfl
    · rfl
  rw [e]
  exact Nat.lt_of_lt_of_le d (Nat.pow_le_pow_right (by decide) h2)
theorem log_ten {n : Nat} (h : n < 10 ^ 400) : n.log2 < 1920 := by
  by_cases z : n = 0
  · rw [z]
    decide
  · exact (Nat.log2_lt z).mpr (Nat.lt_of_lt_of_le h (by decide +kernel))
theorem log_val {l : List Nat} (h : figd l) : (valL l).natAbs.log2 < 1920 := log_ten (valL_size h)
theorem itx_figd {n : Int} (h : n.natAbs < 10 ^ 400) : figd (itx n) ∧ valL (itx n) = n := by
  have ln := TL.numL_len (n := n.natAbs) (k := 400) (by decide) h
  have l1 : 1 ≤ (TL.numL n.natAbs).length := List.length_pos_iff.mpr (TL.numL_ne _)
  unfold itx figd bare valL
  by_cases c : n < 0
  · have hh : (45 :: TL.numL n.natAbs).head? = some 45 := rfl
    rw [if_pos c, if_pos hh, if_pos hh]
    refine ⟨⟨l1, ln, TL.numL_digits _⟩, ?_⟩
    show -((NumText.digitsVal (TL.numL n.natAbs) : Nat) : Int) = n
    rw [TL.numL_val]
    omega
  · rw [if_neg c]
    have hh : ¬ (TL.numL n.natAbs).head? = some 45 := fun z => by
      have := List.mem_of_mem_head? z
      have := TL.numL_digits _ _ this
      omega
    rw [if_neg hh, if_neg hh, TL.numL_val]
    exact ⟨⟨l1, ln, TL.numL_digits _⟩, by omega⟩
theorem itx_numb {n : Int} (h : n.natAbs < 10 ^ 400) : numb (itx n) = true := by
  obtain ⟨a, b⟩ := itx_figd h
  exact (figd_numb a).mp (by rw [b])

end E1

namespace E1
open PySem PySem.Spec PyProof.Rows L2

theorem figs_mem (c : Nat) : decide (c ∈ (("0123456789" : Str)).cps.toList) = (decide (48 ≤ c) && decide (c ≤ 57)) := by
  show decide (c ∈ [48, 49, 50, 51, 52, 53, 54, 55, 56, 57]) = _
  by_cases h : 48 ≤ c ∧ c ≤ 57
  · rw [decide_eq_true h.1, decide_eq_true h.2]
    have key : ∀ k : Fin 10, decide (48 + k.val ∈ [48, 49, 50, 51, 52, 53, 54, 55, 56, 57]) = true := by decide
    have := key ⟨c - 48, by omega⟩
    simp only [show 48 + (c - 48) = c by omega] at this
    exact this
  · have : ¬ c ∈ [48, 49, 50, 51, 52, 53, 54, 55, 56, 57] := fun m => by
      simp only [List.mem_cons, List.not_mem_nil, or_false] at m
      omega
    rw [decide_eq_false this]
    symm
    rw [Bool.and_eq_false_iff, decide_eq_false_iff_not, decide_eq_false_iff_not]
    omega
theorem bare_S (l : List Nat) : Txt.removeprefix (SX.S l) "-" = SX.S (bare l) := by
  rw [StrLaws.removeprefix_eq]
  unfold bare
  match l with
  | [] => rfl
  | c :: r =>
    by_cases h : c = 45
    · subst h
      rw [if_pos, if_pos (show (45 :: r).head? = some 45 from rfl)]
      · have e : ("-" : Str).length = 1 := rfl
        have e2 : (SX.S (45 :: r)).length = r.length + 1 := SX.S_len _
        rw [e, e2]
        show SX.S ((List.drop 1 (45 :: r)).take (r.length + 1 - 1)) = SX.S r
        rw [List.drop_succ_cons, List.drop_zero, Nat.add_sub_cancel, List.take_length]
      · have : Builtin.Str.subAt (SX.S (45 :: r)) "-" 0 = true := by
          unfold Builtin.Str.subAt
          have : (SX.S (45 :: r)).cps.extract 0 (0 + ("-" : Str).length) = #[45] := by
            show (45 :: r).toArray.extract 0 1 = _
            simp
          rw [this]
          rfl
        rw [this, Bool.and_true, decide_eq_true_eq]
        show 1 ≤ (45 :: r).toArray.size
        simp
    · rw [if_neg, if_neg (show ¬ (c :: r).head? = some 45 from fun z => h (Option.some.inj z))]
      have : Builtin.Str.subAt (SX.S (c :: r)) "-" 0 = false := by
        unfold Builtin.Str.subAt
        have : (SX.S (c :: r)).cps.extract 0 (0 + ("-" : Str).length) = #[c] := by
          show (c :: r).toArray.extract 0 1 = _
          simp
        rw [this]
        show (#[c] == #[45]) = false
        rw [beq_eq_false_iff_ne]
        intro z
        have := congrArg Array.toList z
        exact h (List.cons.inj this).1
      rw [this, Bool.and_false]
      exact Bool.false_ne_true
def oV : Option Int → V
  | none => .non
  | some n => .int n
theorem bare_len (l : List Nat) : (bare l).length ≤ l.length := by
  unfold bare
  split
  · rw [List.length_drop]
    omega
  · exact Nat.le_refl _
theorem sl_le {n : Nat} (h : n ≤ 100000) : n ≤ sizeLine := Nat.le_trans h (by decide)
theorem sl_lt {n : Nat} (h : n ≤ 100000) : n < sizeLine := Nat.lt_of_le_of_lt h (by decide)
def spWholeOf : Sp := fun vs H Q _ => ∃ l : List Nat, vs = [.str (SX.S l)] ∧ l.length ≤ 100000 ∧ ∀ H', Same H H' → Q (oV (wholeL l)) H'
theorem wholeL_some {l : List Nat} (h : figd l) (e : itx (valL l) = l) : oV (wholeL l) = .int (valL l) := by
  unfold wholeL
  rw [if_pos ((figd_numb h).mp e)]
  rfl
theorem wholeL_none1 {l : List Nat} (h : ¬ figd l) : oV (wholeL l) = .non := by
  unfold wholeL
  rw [not_figd h]
  rfl
theorem wholeL_none2 {l : List Nat} (h : figd l) (e : ¬ itx (valL l) = l) : oV (wholeL l) = .non := by
  unfold wholeL
  rw [if_neg (fun z => e ((figd_numb h).mpr z))]
  rfl
theorem eq_S (a b : List Nat) : decide (V.str (SX.S a) = V.str (SX.S b)) = decide (a = b) := by
  by_cases h : a = b
  · rw [h, decide_eq_true rfl, decide_eq_true rfl]
  · rw [decide_eq_false h, decide_eq_false]
    exact fun z => h (SX.S_inj (V.str.inj z))
/-- which signs of a text are such -/
def tSign (i : Nat) : TE := tOp (fun x y H Q => ∃ (c : Nat) (z : Str), x = .str ⟨#[c]⟩ ∧ y = .str z ∧ Q (.bl (decide (c ∈ z.cps.toList))) H) (tVar i) (tC (.str "0123456789"))
theorem at_S {l : List Nat} {i c : Nat} (h : (SX.S l).cps[i]? = some c) : l[i]? = some c := by
  have e : (SX.S l).cps[i]? = l[i]? := by simp [SX.S]
  rw [← e]
  exact h
theorem size_S (l : List Nat) : (SX.S l).cps.size = l.length := by simp [SX.S]
/-- a list of marks grows by one -/
theorem marks_grow {l : List Nat} {i c : Nat} {p : Nat → Bool} {H H4 : Hp} {Da : Addr} (hl : l.length ≤ 100000) (hD : H Da = none) (s4 : Same H H4) (hD4 : H4 Da = some (.lst ((l.take i).map fun c => V.bl (p c)))) (hc : l[i]? = some c) :
    ∃ acc, H4 Da = some (.lst acc) ∧ acc.length < sizeLine ∧ Same H (upd H4 Da (.lst (acc ++ [V.bl (p c)]))) ∧ (upd H4 Da (.lst (acc ++ [V.bl (p c)]))) Da = some (.lst ((l.take (i + 1)).map fun c => V.bl (p c))) := by
  refine ⟨_, hD4, ?_, fun b' o' e' => ?_, ?_⟩
  · rw [List.length_map, List.length_take]
    exact sl_lt (by omega)
  · rw [upd_ne (ne_of_none e' hD)]
    exact s4 _ _ e'
  · rw [upd_same, List.take_add_one, hc, List.map_append]
    rfl
section
variable {P : Program} {w : World} {K : PySem.W.Frag} {mg : Str → Option Value} {base : Heap}
theorem sc_whole_of : FnScope ["text", "figures", "number", "sign"] ["text"] (defScope s_whole_of) := ⟨rfl, rfl, rfl, by decide +kernel, rfl, by decide +kernel, by decide +kernel⟩
theorem ok_whole_of {f : Addr} {fd : FuncData} {k : Nat} (F : Fun K "whole_of" "whole_of" s_whole_of f fd) (z : Zs mg) {TF TM : Tok} (g_FIGURES : mg "FIGURES" = some (.str "0123456789" TF)) (g_MOST_FIGURES : mg "MOST_FIGURES" = some (.int 400 TM)) : FnOk P w K mg base CX0 (k + 1) f fd ["text"] spWholeOf := by
  refine F.ok sc_whole_of (fun vs H Q E h => ?_) (fun cdv A outer s H vs Q E hr h => ?_)
  · obtain ⟨l, rfl, _⟩ := h
    rfl
  · obtain ⟨l, rfl, hl, q⟩ := h
    refine ⟨_, (pss_cons (ps_set (i := 1) sc_whole_of.nd rfl (.inl rfl) (pe_bm PySem.F.plainAttrs_str PySem.F.slot_str_removeprefix PySem.F.type_str_removeprefix mt_removeprefix (pv 0) (pa_cons pe_str pa_nil)))
      (pss_cons (ps_if (PW.pt (pw_or (pt_not (pt_chain op_le op_le pe_int (pe_callB call_len_str (by rfl) z.len PySem.boot_len (pa_cons (pv 1) pa_nil)) (pe_glob (v := .int 400) (by rfl) g_MOST_FIGURES ⟨_, rfl⟩))) (pw_or1 (pt_not (pt_val (pe_callB (cr_all rfl) (by rfl) z.all (by decide +kernel) (pa_cons (pe_lc (own := [("sign", 3)]) (g := gName 3) (tt := tYes) (te := tSign 3) (by rfl) sc_whole_of.nd (pi_str (pv 1)) (blkOk_by (own := [("sign", 3)]) (N := ["text", "figures", "number", "sign"]) (sc := defScope s_whole_of) (by decide +kernel)) (fun _ _ _ _ _ => by exact (pg_name (i := 3) sc_whole_of.nd rfl (.inl rfl))) (fun _ _ _ _ _ => by exact pts_nil) (fun _ _ _ _ _ => by exact (pe_cmpR op_in_sign (pv 3) (pe_glob (v := .str "0123456789") (by rfl) g_FIGURES ⟨_, rfl⟩) (by rfl)))) pa_nil))))))) (pss_one (ps_ret pe_non)) pss_nil)
      (pss_cons (ps_set (i := 2) sc_whole_of.nd rfl (.inl rfl) (pe_callTy call_int_str (by rfl) z.int (by decide +kernel) (pa_cons (pv 0) pa_nil)))
      (pss_one (ps_ret (pe_ifExp (pt_cmpR op_eq (pe_joined1 (pe_fmt (pv 2))) (pv 0) (nomark _)) (pv 2) pe_non)))))), ?_⟩
    have bl := bare_len l
    have sb : (SX.S (bare l)).length = (bare l).length := SX.S_len _
    refine ⟨_, rfl, rfl, _, _, rfl, rfl, (by rw [SX.S_len]; exact sl_le hl), ?_⟩
    rw [bare_S]
    refine ⟨_, rfl, _, rfl, (by rw [sb]; exact sl_le (by omega)), _, _, rfl, rfl, _, rfl, ?_⟩
    rw [sb]
    have no : ∀ H', Same H H' → ¬ figd l → Q .non H' := fun H' s hf => by
      rw [← wholeL_none1 hf]
      exact q H' s
    refine ite2 (fun c1 => ⟨_, _, rfl, rfl, _, rfl, ?_⟩) (fun c1 => ⟨_, rfl, iteT (no _ (Same.refl _) fun hf => c1 (decide_eq_true (by have := hf.1; omega)))⟩)
    refine iteN (fun c2 => no _ (Same.refl _) fun hf => c2 (by have := hf.2.1; omega)) (fun c2 => ?_)
    refine ⟨_, rfl, _, rfl, fun Da hD => ?_⟩
    refine lc_it (walk_str (z := SX.S (bare l))) (fun i H4 => Same H H4 ∧ H4 Da = some (.lst (((bare l).take i).map fun c => V.bl (decide (48 ≤ c) && decide (c ≤ 57))))) ⟨same_new hD, upd_same⟩ (fun _ _ _ _ => trivial) (fun i x' H4 H5 hi hP hy => ?_) (fun H4 hP => ?_)
    · obtain ⟨s4, hD4⟩ := hP
      obtain ⟨rfl, c, hcc, rfl⟩ := hy
      refine ⟨rfl, _, rfl, c, _, rfl, rfl, ?_⟩
      rw [figs_mem]
      exact marks_grow (p := fun c => decide (48 ≤ c) && decide (c ≤ 57)) (by omega) hD s4 hD4 (at_S hcc)
    · obtain ⟨s4, hD4⟩ := hP
      rw [size_S, List.take_length] at hD4
      refine ⟨Da, (bare l).map (fun c => decide (48 ≤ c) && decide (c ≤ 57)), rfl, SqL.of (by rw [hD4, List.map_map]; rfl), ?_⟩
      rw [List.all_map]
      by_cases hf : figd l
      · have e1 : ((bare l).all (id ∘ fun c => decide (48 ≤ c) && decide (c ≤ 57))) = true := all_dig.mpr hf.2.2
        refine ⟨_, rfl, iteC (d := false) (by rw [e1]; rfl) (iteF ?_)⟩
        refine ⟨_, rfl, _, _, rfl, valL_int hf, (by rw [SX.S_len]; have := figd_len hf; omega), ?_⟩
        refine ⟨_, rfl, .inr ⟨_, rfl, log_val hf, ?_⟩⟩
        rw [int_itx]
        refine ⟨_, rfl, rfl, ?_⟩
        rw [eq_S]
        by_cases ht : itx (valL l) = l
        · rw [decide_eq_true ht]
          refine ⟨_, rfl, iteT ⟨_, rfl, ?_⟩⟩
          rw [← wholeL_some hf ht]
          exact q _ s4
        · rw [decide_eq_false ht]
          refine ⟨_, rfl, iteF ?_⟩
          have := q _ s4
          rw [wholeL_none2 hf ht] at this
          exact this
      · have e1 : ((bare l).all (id ∘ fun c => decide (48 ≤ c) && decide (c ≤ 57))) = false := by
          cases e : (bare l).all fun c => decide (48 ≤ c) && decide (c ≤ 57) with
          | false => exact e
          | true => exact absurd ⟨by have := toB c1; omega, by omega, all_dig.mp e⟩ hf
        exact ⟨_, rfl, iteC (d := true) (by rw [e1]; rfl) (iteT (no _ s4 hf))⟩
end
end E1

namespace E1
open PySem PySem.Spec PyProof.Rows L2
theorem Same.sqL {K : PySem.W.Frag} {H H' : Hp} {a : Addr} {xs : List V} (e : Same H H') (h : SqL K H a xs) : SqL K H' a xs := by
  rcases h with (h | ⟨o, h⟩) | h
  · exact .inl (.inl (e _ _ h))
  · exact .inl (.inr ⟨o, e _ _ h⟩)
  · exact .inr h
abbrev sV (l : List Nat) : V := .str (SX.S l)
theorem list_grow {α : Type} {l : List α} {i : Nat} {c : α} {p : α → V} {H H4 H5 : Hp} {Da : Addr} (hl : l.length ≤ 100000) (hD : H Da = none) (s4 : Same H H4) (hD4 : H4 Da = some (.lst ((l.take i).map p))) (s5 : Same H4 H5) (hc : l[i]? = some c) :
    ∃ acc, H5 Da = some (.lst acc) ∧ acc.length < sizeLine ∧ Same H (upd H5 Da (.lst (acc ++ [p c]))) ∧ (upd H5 Da (.lst (acc ++ [p c]))) Da = some (.lst ((l.take (i + 1)).map p)) := by
  refine ⟨_, s5 _ _ hD4, ?_, fun b' o' e' => ?_, ?_⟩
  · rw [List.length_map, List.length_take]
    exact sl_lt (by omega)
  · rw [upd_ne (ne_of_none e' hD)]
    exact s5 _ _ (s4 _ _ e')
  · rw [upd_same, List.take_add_one, hc, List.map_append]
    rfl
theorem emp_S (a : List Nat) : Str.empty ++ SX.S a = SX.S a := SX.S_cat [] a
def Raised (C : Addr) (fld : Str) (H : Hp) (E : XK) : Prop := ∀ d H', Same H H' → H' d = some (.xd [(fld, .int 0)]) → E (.ref C) (some d) H'
/-- a thing that is no text -/
def NoTxt (K : PySem.W.Frag) (H : Hp) (x : V) : Prop := (∃ t : String, TyX K H x (.type t) ∧ kitB t "str" = some false) ∨ ∃ C : Addr, TyX K H x (.ref C) ∧ PySem.W.kitOne K (.ref C) (.type "str") = some false
def spCheck (K : PySem.W.Frag) (CT : Addr) : Sp := fun vs H Q E => ∃ x : V, vs = [x] ∧ ((∃ z, x = .str z ∧ Q .non H) ∨ (NoTxt K H x ∧ Raised CT "line" H E))
section
variable {P : Program} {w : World} {K : PySem.W.Frag} {mg : Str → Option Value} {base : Heap}
theorem sc_check_text : FnScope ["thing"] ["thing"] (defScope s_check_text) := ⟨rfl, rfl, rfl, by decide +kernel, rfl, by decide +kernel, by decide +kernel⟩
theorem ok_check_text {f : Addr} {fd : FuncData} {k : Nat} {CT fI : Addr} (EC : PySem.ErrX.ErrC K mg "NoText" CT) (IO : PySem.ErrX.IniOk P w K mg CT fI "line") (F : Fun K "check_text" "check_text" s_check_text f fd) (z : Zs mg) : FnOk P w K mg base (L2.CX P w) (k + 1) f fd ["thing"] (spCheck K CT) := by
  refine F.okX sc_check_text (fun vs H Q E h => ?_) (fun cdv A outer s H vs Q E hr h => ?_)
  · obtain ⟨x, rfl, _⟩ := h
    rfl
  · obtain ⟨x, rfl, h⟩ := h
    refine ⟨_, (pss_one (ps_if (pt_not (pt_val (pe_callB call_isi (by rfl) z.isinstance (by decide +kernel) (pa_cons (pv 0) (pa_cons (pe_bltn (v := .ty "str") (by rfl) z.str (by decide +kernel) rfl) pa_nil))))) (pss_one (ps_raiseErr rfl EC IO hr (takes_of rfl rfl rfl rfl) (by exact (pa_cons pe_int pa_nil)))) pss_nil)), ?_⟩
    rcases h with ⟨y, rfl, q⟩ | ⟨⟨t, ty, kt⟩ | ⟨C, ty, kt⟩, q⟩
    · exact ⟨_, rfl, _, .ty "str", _, _, true, rfl, .ty _, .base (.str _), kit_ty (by decide +kernel), _, rfl, iteF q⟩
    · refine ⟨_, rfl, _, .ty "str", _, _, false, rfl, .ty _, ty, kit_ty kt, _, rfl, iteT ⟨_, rfl, .inr ⟨0, rfl, by decide, by decide⟩, fun d hd => q d _ (same_new hd) upd_same⟩⟩
    · refine ⟨_, rfl, _, .ty "str", _, _, false, rfl, .ty _, ty, kt, _, rfl, iteT ⟨_, rfl, .inr ⟨0, rfl, by decide, by decide⟩, fun d hd => q d _ (same_new hd) upd_same⟩⟩
end
end E1

namespace E1
open PySem PySem.Spec PyProof.Rows L2
/-! ### a form's text: its parts, read back -/
theorem find_no {l : List Nat} {c : Nat} (h : c ∉ l) : Txt.find (SX.S l) (SX.S [c]) = -1 := by
  have e := SX.in_one l c
  rw [decide_eq_false h, Bool.not_eq_false'] at e
  unfold Txt.find
  rw [List.isEmpty_iff.mp e]
/-- a text and its first sign c -/
theorem first_of (c : Nat) : ∀ l : List Nat, c ∉ l ∨ ∃ p q, l = p ++ c :: q ∧ c ∉ p
  | [] => .inl (fun h => nomatch h)
  | x :: r => by
    by_cases e : x = c
    · exact .inr ⟨[], r, by rw [e]; rfl, fun h => nomatch h⟩
    · rcases first_of c r with h | ⟨p, q, rfl, h⟩
      · refine .inl fun m => ?_
        rcases List.mem_cons.mp m with m | m
        · exact e m.symm
        · exact h m
      · refine .inr ⟨x :: p, q, rfl, fun m => ?_⟩
        rcases List.mem_cons.mp m with m | m
        · exact e m.symm
        · exact h m
theorem index_at {p q : List Nat} {c : Nat} (h : c ∉ p) : Txt.index0 (SX.S (p ++ c :: q)) (SX.S [c]) = some p.length := by
  have e := SX.in_one (p ++ c :: q) c
  rw [decide_eq_true (by simp), Bool.not_eq_true'] at e
  have pp := SX.partition_some (a := p ++ c :: q) (b := [c]) (List.cons_ne_nil _ _) (SX.par_head (sep := []) q h)
  unfold Txt.index0
  unfold Txt.partition at pp
  have sp := PySem.StrLaws.occ_spec (SX.S (p ++ c :: q)) (SX.S [c]) 0 (SX.S (p ++ c :: q)).length 1
  generalize Builtin.Str.occurrences (SX.S (p ++ c :: q)) (SX.S [c]) 0 (SX.S (p ++ c :: q)).length 1 = os at *
  match os, e with
  | i :: r, _ =>
    have b := (sp i (List.mem_cons_self ..)).1
    rw [SX.S_len, SX.S_len] at b
    have f := congrArg (fun z => (TL.tl z.1).length) pp
    simp only [TL.tl_strSub, TL.tl_mk] at f
    rw [List.drop_zero, List.length_take] at f
    show some i = some p.length
    simp only [List.length_append, List.length_cons, List.length_nil] at b f
    congr 1
    omega
theorem spl_ne (s : Nat) : ∀ (l acc : List Nat), TL.spl [s] 0 acc l ≠ []
  | [], acc => by
    rw [TL.spl_nil]
    exact List.cons_ne_nil _ _
  | c :: r, acc => by
    cases h : TL.pre [s] (c :: r) with
    | true =>
      rw [TL.spl_hit h]
      exact List.cons_ne_nil _ _
    | false =>
      rw [TL.spl_miss h]
      exact spl_ne s r _
theorem split_at (s : Nat) (hs : s < 256) (l : List Nat) : (Txt.split (SX.S l) (SX.S [s])).map V.str = (TL.spl [s] 0 [] l).map sV := by
  rw [SX.split_S (List.cons_ne_nil _ _) (by simp [hs]), List.map_map]
  rfl
theorem spl_sizes (s : Nat) : ∀ (l acc : List Nat), (TL.spl [s] 0 acc l).length ≤ l.length + 1 ∧ ∀ p ∈ TL.spl [s] 0 acc l, p.length ≤ acc.length + l.length
  | [], acc => by
    rw [TL.spl_nil]
    exact ⟨Nat.le_refl _, fun p hp => by rw [List.mem_singleton.mp hp]; exact Nat.le_refl _⟩
  | c :: r, acc => by
    cases h : TL.pre [s] (c :: r) with
    | true =>
      rw [TL.spl_hit h]
      obtain ⟨a, b⟩ := spl_sizes s r []
      refine ⟨?_, fun p hp => ?_⟩
      · have : (TL.spl [s] 0 [] r).length ≤ r.length + 1 := a
        show (acc :: TL.spl [s] 0 [] r).length ≤ _
        rw [List.length_cons, List.length_cons]
        omega
      · rcases List.mem_cons.mp hp with rfl | hp
        · omega
        · have : p.length ≤ ([] : List Nat).length + r.length := b p hp
          rw [List.length_nil] at this
          rw [List.length_cons]
          omega
    | false =>
      rw [TL.spl_miss h]
      obtain ⟨a, b⟩ := spl_sizes s r (acc ++ [c])
      refine ⟨by rw [List.length_cons]; omega, fun p hp => ?_⟩
      have := b p hp
      rw [List.length_append, List.length_singleton] at this
      rw [List.length_cons]
      omega
def cutA : List Nat → List Nat
  | [] => []
  | x :: r => if x = 46 then [] else x :: cutA r
def cutB : List Nat → List Nat
  | [] => []
  | x :: r => if x = 46 then r else cutB r
theorem cut_at {p q : List Nat} : 46 ∉ p → cutA (p ++ 46 :: q) = p ∧ cutB (p ++ 46 :: q) = q := by
  induction p with
  | nil => exact fun _ => ⟨rfl, rfl⟩
  | cons x r ih =>
    intro h
    have n : ¬ x = 46 := fun e => h (by rw [e]; exact List.mem_cons_self ..)
    obtain ⟨a, b⟩ := ih fun m => h (List.mem_cons_of_mem _ m)
    exact ⟨by show (if x = 46 then [] else x :: cutA (r ++ 46 :: q)) = _; rw [if_neg n, a], by show (if x = 46 then r ++ 46 :: q else cutB (r ++ 46 :: q)) = _; rw [if_neg n, b]⟩
theorem cut_no : ∀ {l : List Nat}, 46 ∉ l → cutA l = l ∧ cutB l = []
  | [], _ => ⟨rfl, rfl⟩
  | x :: r, h => by
    have n : ¬ x = 46 := fun e => h (by rw [e]; exact List.mem_cons_self ..)
    obtain ⟨a, b⟩ := cut_no (l := r) fun m => h (List.mem_cons_of_mem _ m)
    exact ⟨by show (if x = 46 then _ else _) = _; rw [if_neg n, a], by show (if x = 46 then _ else _) = _; rw [if_neg n, b]⟩
theorem part_S (l : List Nat) : ∃ z : Str, Txt.partition (SX.S l) (SX.S [46]) = (SX.S (cutA l), z, SX.S (cutB l)) := by
  rcases first_of 46 l with h | ⟨p, q, rfl, h⟩
  · obtain ⟨a, b⟩ := cut_no h
    rw [a, b]
    exact ⟨_, TL.partition_none (s := 46) (S := []) rfl h⟩
  · obtain ⟨a, b⟩ := cut_at (q := q) h
    rw [a, b]
    exact ⟨_, SX.partition_some (a := p ++ 46 :: q) (b := [46]) (List.cons_ne_nil _ _) (SX.par_head (sep := []) q h)⟩
theorem cut_len : ∀ l : List Nat, (cutA l).length ≤ l.length ∧ (cutB l).length ≤ l.length
  | [] => ⟨Nat.le_refl _, Nat.le_refl _⟩
  | x :: r => by
    obtain ⟨a, b⟩ := cut_len r
    constructor
    · show (if x = 46 then _ else _ : List Nat).length ≤ _
      split
      · exact Nat.zero_le _
      · rw [List.length_cons, List.length_cons]
        omega
    · show (if x = 46 then _ else _ : List Nat).length ≤ _
      rw [List.length_cons]
      split <;> omega
def freeL : List Nat := [102, 114, 101, 101]
def widthL (l : List Nat) : Option (Option Int) := if l = freeL then some none else match wholeL l with
  | some n => if 2 ≤ n ∧ n ≤ 64 then some (some n) else none
  | none => none
def pointL (l : List Nat) : Option Int := match wholeL l with
  | some n => if -64 ≤ n ∧ n ≤ 64 then some n else none
  | none => none
def Mn.l : Mn → List Nat
  | .down => [100, 111, 119, 110]
  | .up => [117, 112]
  | .inn => [105, 110]
  | .out => [111, 117, 116]
  | .half => [104, 97, 108, 102]
  | .even => [101, 118, 101, 110]
  | .far => [102, 97, 114]
theorem Mn.l_str (m : Mn) : m.str = SX.S m.l := by cases m <;> rfl
def endL : Bool → List Nat
  | true => [115, 116, 111, 112]
  | false => [119, 114, 97, 112]
theorem endL_str (b : Bool) : endS b = SX.S (endL b) := by cases b <;> rfl
def mannerL (l : List Nat) : Option Mn := [Mn.down, .up, .inn, .out, .half, .even, .far].find? fun m => decide (m.l = l)
def endsL (l : List Nat) : Option Bool := [false, true].find? fun b => decide (endL b = l)
theorem mannerL_some {l : List Nat} {m : Mn} (h : mannerL l = some m) : m.l = l := of_decide_eq_true (List.find?_some h :)
theorem mannerL_l (m : Mn) : mannerL m.l = some m := by cases m <;> rfl
theorem mannerL_none {l : List Nat} (h : mannerL l = none) (m : Mn) : m.l ≠ l := fun e => by rw [← e, mannerL_l] at h; cases h
theorem endsL_some {l : List Nat} {b : Bool} (h : endsL l = some b) : endL b = l := of_decide_eq_true (List.find?_some h :)
theorem endsL_l (b : Bool) : endsL (endL b) = some b := by cases b <;> rfl
theorem endsL_none {l : List Nat} (h : endsL l = none) (b : Bool) : endL b ≠ l := fun e => by rw [← e, endsL_l] at h; cases h
def rdParts : List (List Nat) → Option (Option Int × Int × Mn × Bool)
  | [a, b, c] => match widthL (cutA a), pointL (cutB a), mannerL b, endsL c with
    | some w, some p, some m, some e => some (w, p, m, e)
    | _, _, _, _ => none
  | _ => none
theorem rdParts_three (a b c : List Nat) : rdParts [a, b, c] = match widthL (cutA a), pointL (cutB a), mannerL b, endsL c with
    | some w, some p, some m, some e => some (w, p, m, e)
    | _, _, _, _ => none := rfl
def rdF (l : List Nat) : Option (Option Int × Int × Mn × Bool) := rdParts (TL.spl [32] 0 [] l)
def wT : Option Int → List Nat
  | none => freeL
  | some n => itx n
def formT (w : Option Int) (pt : Int) (m : Mn) (st : Bool) : List Nat := wT w ++ 46 :: (itx pt ++ 32 :: (m.l ++ 32 :: endL st))
theorem small_ten {n : Int} (h : -64 ≤ n ∧ n ≤ 64) : n.natAbs < 10 ^ 400 := Nat.lt_of_le_of_lt (show n.natAbs ≤ 64 by omega) (by decide +kernel)
theorem whole_itx {n : Int} (h : n.natAbs < 10 ^ 400) : wholeL (itx n) = some n := by
  unfold wholeL
  rw [if_pos (itx_numb h), (itx_figd h).2]
theorem whole_back {l : List Nat} {n : Int} (h : wholeL l = some n) : itx n = l := by
  unfold wholeL at h
  split at h
  · next c =>
    cases h
    have f : figd l := Classical.byContradiction fun z => by rw [not_figd z] at c; cases c
    exact (figd_numb f).mpr c
  · cases h
theorem itx_digs {n : Int} (h : n.natAbs < 10 ^ 400) {c : Nat} (m : c ∈ itx n) : c = 45 ∨ (48 ≤ c ∧ c ≤ 57) := by
  unfold itx at m
  split at m
  · rcases List.mem_cons.mp m with e | m
    · exact .inl e
    · exact .inr (TL.numL_digits _ _ m)
  · exact .inr (TL.numL_digits _ _ m)
theorem itx_free4 {n : Int} (h : n.natAbs < 10 ^ 400) : itx n ≠ freeL := fun e => by
  have := itx_digs h (c := 102) (by rw [e]; exact List.mem_cons_self ..)
  omega
theorem widthL_wT {w : Option Int} (h : WOk w) : widthL (wT w) = some w := by
  unfold widthL
  cases w with
  | none => rfl
  | some n =>
    obtain ⟨a, b⟩ := h n rfl
    have hn := small_ten (n := n) (by omega)
    show (if itx n = freeL then some none else match wholeL (itx n) with | some n => if 2 ≤ n ∧ n ≤ 64 then some (some n) else none | none => none) = _
    rw [if_neg (itx_free4 hn)]
    show (match wholeL (itx n) with | some n => if 2 ≤ n ∧ n ≤ 64 then some (some n) else none | none => none) = _
    rw [whole_itx hn]
    exact if_pos ⟨a, b⟩
theorem widthL_some {l : List Nat} {w : Option Int} (h : widthL l = some w) : l = wT w ∧ WOk w := by
  unfold widthL at h
  split at h
  · next c =>
    cases h
    exact ⟨c, fun _ z => by cases z⟩
  · split at h
    · next n e =>
      split at h
      · next k =>
        cases h
        exact ⟨(whole_back e).symm, fun _ z => by cases z; exact k⟩
      · cases h
    · cases h
theorem pointL_itx {n : Int} (h : -64 ≤ n ∧ n ≤ 64) : pointL (itx n) = some n := by
  unfold pointL
  rw [whole_itx (small_ten h)]
  exact if_pos h
theorem pointL_some {l : List Nat} {n : Int} (h : pointL l = some n) : l = itx n ∧ -64 ≤ n ∧ n ≤ 64 := by
  unfold pointL at h
  split at h
  · next k e =>
    split at h
    · next b =>
      cases h
      exact ⟨(whole_back e).symm, b⟩
    · cases h
  · cases h
theorem whole_nil : wholeL [] = none := rfl
theorem pointL_nil : pointL [] = none := rfl
theorem free_32 : (32 : Nat) ∉ freeL ∧ (46 : Nat) ∉ freeL := by decide
theorem wT_free {w : Option Int} (h : WOk w) {c : Nat} (hc : c = 32 ∨ c = 46) : c ∉ wT w := fun m => by
  cases w with
  | none => rcases hc with rfl | rfl; exact free_32.1 m; exact free_32.2 m
  | some n =>
    obtain ⟨a, b⟩ := h n rfl
    have := itx_digs (small_ten (n := n) (by omega)) m
    omega
theorem mn_free (m : Mn) : (32 : Nat) ∉ m.l := by cases m <;> decide
theorem end_free (b : Bool) : (32 : Nat) ∉ endL b := by cases b <;> decide
theorem formT_join (w : Option Int) (pt : Int) (m : Mn) (st : Bool) : formT w pt m st = TL.joinL [32] [wT w ++ 46 :: itx pt, m.l, endL st] := by
  show _ = (wT w ++ 46 :: itx pt) ++ ([32] ++ (m.l ++ ([32] ++ endL st)))
  unfold formT
  simp
theorem formT_spl {w : Option Int} {pt : Int} (m : Mn) (st : Bool) (hw : WOk w) (hp : -64 ≤ pt ∧ pt ≤ 64) : TL.spl [32] 0 [] (formT w pt m st) = [wT w ++ 46 :: itx pt, m.l, endL st] := by
  rw [formT_join]
  refine SX.spl_join (List.cons_ne_nil _ _) fun p h => ?_
  simp only [List.mem_cons, List.not_mem_nil, or_false] at h
  rcases h with rfl | rfl | rfl
  · intro z
    rcases List.mem_append.mp z with z | z
    · exact wT_free hw (.inl rfl) z
    · rcases List.mem_cons.mp z with z | z
      · cases z
      · have := itx_digs (small_ten hp) z
        omega
  · exact mn_free m
  · exact end_free st
theorem rdF_form {w : Option Int} {pt : Int} (m : Mn) (st : Bool) (hw : WOk w) (hp : -64 ≤ pt ∧ pt ≤ 64) : rdF (formT w pt m st) = some (w, pt, m, st) := by
  unfold rdF
  rw [formT_spl m st hw hp]
  obtain ⟨a, b⟩ := cut_at (q := itx pt) (wT_free hw (.inr rfl))
  show (match widthL (cutA (wT w ++ 46 :: itx pt)), pointL (cutB (wT w ++ 46 :: itx pt)), mannerL m.l, endsL (endL st) with
    | some w, some p, some m, some e => some (w, p, m, e)
    | _, _, _, _ => none) = _
  rw [a, b, widthL_wT hw, pointL_itx hp, mannerL_l, endsL_l]
theorem join_spl (s : Nat) : ∀ (l acc : List Nat), TL.joinL [s] (TL.spl [s] 0 acc l) = acc ++ l
  | [], acc => by
    rw [TL.spl_nil, List.append_nil]
    rfl
  | c :: r, acc => by
    cases h : TL.pre [s] (c :: r) with
    | true =>
      rw [TL.spl_hit h]
      have ih := join_spl s r []
      have e : c = s := by
        unfold TL.pre at h
        simpa using h
      show TL.joinL [s] (acc :: TL.spl [s] 0 [] r) = _
      have ne := spl_ne s r []
      match hm : TL.spl [s] 0 [] r, ne with
      | p :: q, _ =>
        rw [hm] at ih
        show acc ++ ([s] ++ TL.joinL [s] (p :: q)) = _
        rw [ih, e]
        rfl
    | false =>
      rw [TL.spl_miss h]
      have ih := join_spl s r (acc ++ [c])
      rw [ih]
      simp
theorem rdF_back {l : List Nat} {w : Option Int} {pt : Int} {m : Mn} {st : Bool} (h : rdF l = some (w, pt, m, st)) : l = formT w pt m st ∧ WOk w ∧ -64 ≤ pt ∧ pt ≤ 64 := by
  have j := join_spl 32 l []
  rw [List.nil_append] at j
  unfold rdF at h
  generalize TL.spl [32] 0 [] l = ls at *
  match ls, h with
  | [a, b, c], h =>
    rw [rdParts_three] at h
    cases e1 : widthL (cutA a) with
    | none => rw [e1] at h; cases h
    | some w' =>
    cases e2 : pointL (cutB a) with
    | none => rw [e1, e2] at h; cases h
    | some p' =>
    cases e3 : mannerL b with
    | none => rw [e1, e2, e3] at h; cases h
    | some m' =>
    cases e4 : endsL c with
    | none => rw [e1, e2, e3, e4] at h; cases h
    | some s' =>
      rw [e1, e2, e3, e4] at h
      cases h
      obtain ⟨a1, hw⟩ := widthL_some e1
      obtain ⟨a2, hp⟩ := pointL_some e2
      refine ⟨?_, hw, hp⟩
      rw [← j, formT_join, mannerL_some e3, endsL_some e4]
      have : a = wT w ++ 46 :: itx pt := by
        rcases first_of 46 a with n | ⟨p, q, rfl, n⟩
        · rw [(cut_no n).2, pointL_nil] at e2
          cases e2
        · obtain ⟨x, y⟩ := cut_at (q := q) n
          rw [x] at a1
          rw [y] at a2
          rw [a1, a2]
      rw [this]
theorem formT_len {w : Option Int} {pt : Int} (m : Mn) (st : Bool) (hw : WOk w) (hp : -64 ≤ pt ∧ pt ≤ 64) : (formT w pt m st).length ≤ 30 := by
  have key : ∀ n : Int, -64 ≤ n → n ≤ 64 → (itx n).length ≤ 3 := fun n h0 h1 => by
    have := ts_len h0 h1
    rw [int_itx, SX.S_len] at this
    exact this
  have l1 : (wT w).length ≤ 4 := by
    cases w with
    | none => exact Nat.le_refl _
    | some n =>
      obtain ⟨a, b⟩ := hw n rfl
      have := key n (by omega) (by omega)
      show (itx n).length ≤ 4
      omega
  have l2 := key pt hp.1 hp.2
  have l3 : m.l.length ≤ 4 := by cases m <;> decide
  have l4 : (endL st).length ≤ 4 := by cases st <;> decide
  unfold formT
  simp only [List.length_append, List.length_cons]
  omega
theorem strF_S (w : Option Int) (pt : Int) (m : Mn) (st : Bool) : strF w pt m st = SX.S (formT w pt m st) := by
  have sp : Str.ofString " " = SX.S [32] := rfl
  have dt : Str.ofString "." = SX.S [46] := rfl
  have fr : Str.ofString "free." = SX.S (freeL ++ [46]) := rfl
  have em : Str.empty = SX.S [] := rfl
  unfold strF formT
  cases w with
  | none =>
    show Str.empty ++ Str.ofString "free." ++ Str.ofString (toString pt) ++ Str.ofString " " ++ m.str ++ Str.ofString " " ++ endS st = _
    rw [em, fr, int_itx, sp, Mn.l_str, endL_str]
    simp only [SX.S_cat]
    congr 1
    simp [wT]
  | some n =>
    show Str.empty ++ Str.ofString (toString n) ++ Str.ofString "." ++ Str.ofString (toString pt) ++ Str.ofString " " ++ m.str ++ Str.ofString " " ++ endS st = _
    rw [em, dt, int_itx, int_itx, sp, Mn.l_str, endL_str]
    simp only [SX.S_cat]
    congr 1
    simp [wT]

end E1

namespace E1
open PySem PySem.Spec PyProof.Rows L2
/-! ### objects made by a making that may raise -/
section
variable {X : Cx} {k j : Nat} {C : Addr} {x : Str} {ps : List Str} {dvs : List V} {sp : Sp} {e : Expr} {es : List Expr} {t : TA} {p pos : Pos}
def CalCX (P : Program) (w : World) (K : PySem.W.Frag) (mg : Str → Option Value) (base : Heap) (k : Nat) (x : Str) (C : Addr) (ps : List Str) (dvs : List V) (sp : Sp) : Prop :=
  ∃ (f : Addr) (fd : FuncData) (ds : List Value), Mk K C f ∧ mg x = some (.ref C) ∧ Vals dvs ds ∧ Binds K fd ps ds ∧ FnOk P w K mg base (L2.CX P w) k f fd ps sp
/-- outside a try: nothing is raised there -/
theorem pe_calcx (h : CalCX X.prog X.w X.K X.mg X.base k x C ps dvs sp) (hr : Room j X.A) (ha : PA X (e :: es) t) (hle : k + 1 ≤ j := by decide) (hg : Gl X x := by rfl)
    (hdb : (x == ("__debug__" : Str)) = false := by decide) (he : starEach (e :: es) X.env = (false, eval e X.env) :: starEach es X.env := by rfl) (hpl : (backTo pos (starEach es X.env)).any (·.1) = false := by rfl) :
    PE X (.Call (.Name x p) (e :: es) [] pos) (tMake C sp dvs E0 t) := by
  obtain ⟨f, fd, ds, h1, h2, h3, h4, h5⟩ := h
  exact pe_make h1 h5 (hr.mono hle) hg h2 h4 h3 passL ha hdb he hpl
/-- within a try: the try's wish W sees the slots as they stand -/
def tMakeS (C : Addr) (sp : Sp) (dvs : List V) (W : WX) (t : TA) : TE := fun σ H Q => t σ H fun vs G => ∀ o d, G o = none → G d = none → d ≠ o → sp (.ref o :: (vs ++ dvs)) (upd (upd G d (.own o)) o (.ins C d [])) (fun v G' => v = .non ∧ Q (.ref o) G') (WE W σ)
theorem pe_calcS {W : WX} (h : CalCX X.prog X.w X.K X.mg X.base k x C ps dvs sp) (hr : Room j X.A) (tk : Takes X W) (ha : PA X (e :: es) t) (hle : k + 1 ≤ j := by decide) (hg : Gl X x := by rfl)
    (hdb : (x == ("__debug__" : Str)) = false := by decide) (he : starEach (e :: es) X.env = (false, eval e X.env) :: starEach es X.env := by rfl) (hpl : (backTo pos (starEach es X.env)).any (·.1) = false := by rfl) :
    PE X (.Call (.Name x p) (e :: es) [] pos) (tMakeS C sp dvs W t) := by
  obtain ⟨f, fd, ds, M, hm, vals, bind, F⟩ := h
  refine ⟨fun pins s σ H Q I q => wpAny_Call_Name_kw (ld_glob I hg hm ?_ hdb)⟩
  refine PySem.W.callWith_K (h₀ := X.base) I.ok.mod.kin M.kp (thn (ha.run pos pins s σ H _ I q) fun us s' ⟨vs, G, J, rv, q'⟩ => ⟨J.kIn, ?_⟩) he hpl
  obtain ⟨n, hn⟩ : ∃ n, n = s'.heap.objs.size := ⟨_, rfl⟩
  have free : G n = none ∧ G (n + 1) = none := by
    rw [hn]
    exact ⟨J.hok.fresh (Nat.le_refl _), J.hok.fresh (Nat.le_succ _)⟩
  have told := q' (n + 1) n free.2 free.1 (Nat.ne_of_lt (Nat.lt_succ_self _))
  rw [hn] at told
  have J' := Inv.made (C := C) J
  have rr : Vals (V.ref (s'.heap.objs.size + 1) :: (vs ++ dvs)) (Value.ref (s'.heap.objs.size + 1) :: (us ++ ds)) := .cons rfl (rv.append vals)
  have many : (Value.ref (s'.heap.objs.size + 1) :: us ++ ds).length = ps.length := (rr.length.symm.trans (F.len _ _ _ _ told) :)
  have room : Room (k + 1) X.A := hr.mono hle
  have ran := F.run _ X.stack _ _ ⟨Value.ref (s'.heap.objs.size + 1) :: us, []⟩ (Value.ref (s'.heap.objs.size + 1) :: (us ++ ds)) _ _ (WE W σ) (room.make C us []) (J'.env0.make C us []) (bind _ (Value.ref (s'.heap.objs.size + 1) :: us) J'.kIn many) rr told
  refine wpAny_call (make_map (f := f) J.kIn M.makes M.init (beq_iff_eq.mp M.fn) (codeAny_mono ran fun r s'' got => ?_))
  rcases r with e | fl
  · exact passAt tk σ pins _ _ e s'' J' got
  · rcases fl with _ | _ | _ | u
    all_goals first | exact got.elim | skip
    obtain ⟨v, G', J3, rel, ev, fin⟩ := J'.after got
    subst ev
    exact ⟨rel, ⟨V.ref (s'.heap.objs.size + 1), G', J3, rfl, fin⟩⟩
end

/-- the dict of manners: no other text is in it -/
def keysIn (es : List DictEntry) (l : List Str) : Bool := es.all fun e => match e.key with
  | .str s _ => l.any fun y => y == s
  | _ => false
theorem nsIn_none {K : PySem.W.Frag} {A : Addr} {ty : Value} {od : Option Addr} {es : Array DictEntry} {n : Nat} {sl : Array (Option Value)} {l : List Str} {y : Str} (h : K.lookup A = some ⟨ty, od, .dict es n, sl⟩) (k : keysIn es.toList l = true) (ny : ∀ z ∈ l, z ≠ y) : PySem.W.nsIn K A y = some none := by
  unfold keysIn at k
  rw [List.all_eq_true] at k
  have key : ∀ e ∈ es.toList, e.key.isStr y = false ∧ e.refKey = false := fun e he => by
    have ke := k e he
    split at ke
    · next s t ek =>
      obtain ⟨z, hz, e2⟩ := List.any_eq_true.mp ke
      have e3 : z = s := eq_of_beq e2
      constructor
      · rw [ek]
        show (s == y) = false
        rw [← e3]
        exact beq_eq_false_iff_ne.mpr (ny z hz)
      · unfold DictEntry.refKey
        rw [ek]
    · cases ke
  unfold PySem.W.nsIn
  rw [h]
  have f : es.toList.find? (·.key.isStr y) = none := List.find?_eq_none.mpr fun e he => by rw [(key e he).1]; exact Bool.false_ne_true
  have r : es.toList.any (·.refKey) = false := by
    rw [List.any_eq_false]
    exact fun e he => by rw [(key e he).2]; exact Bool.false_ne_true
  simp only [f, r]
  rfl
def NoMan (K : PySem.W.Frag) (dM : Addr) : Prop := ∀ y : Str, (∀ m : Mn, m.str ≠ y) → PySem.W.nsIn K dM y = some none
theorem man_is {K : PySem.W.Frag} {dM : Addr} (N : NoMan K dM) (H : Hp) (l : List Nat) : MannerIs K H dM (sV l) (mannerL l).isSome := by
  cases e : mannerL l with
  | some m => exact .inl ⟨m, by rw [Mn.l_str, mannerL_some e], rfl⟩
  | none => exact .inr (.inl ⟨_, rfl, N _ fun m z => mannerL_none e m (SX.S_inj (by rw [← Mn.l_str]; exact z)), rfl⟩)
theorem ends_is (K : PySem.W.Frag) (H : Hp) (l : List Nat) : EndsIs K H (sV l) (endsL l).isSome := by
  refine .inl ⟨_, rfl, ?_⟩
  have e1 : Str.ofString "wrap" = SX.S (endL false) := rfl
  have e2 : Str.ofString "stop" = SX.S (endL true) := rfl
  unfold inV
  rw [List.any_cons, List.any_cons, List.any_nil, Bool.or_false]
  show _ = ((Str.ofString "wrap" == SX.S l) || (Str.ofString "stop" == SX.S l))
  rw [e1, e2, SX.S_beq_eq, SX.S_beq_eq]
  cases e : endsL l with
  | some b =>
    have := endsL_some e
    cases b
    · rw [decide_eq_true this]
      rfl
    · rw [decide_eq_true this, Bool.or_true]
      rfl
  | none => rw [decide_eq_false (endsL_none e false), decide_eq_false (endsL_none e true)]; rfl
theorem width_is (K : PySem.W.Frag) (H : Hp) {x : V} {l : List Nat} (h : (l = freeL ∧ x = .non) ∨ (l ≠ freeL ∧ ∃ n, wholeL l = some n ∧ x = .int n)) : WidthIs K H x (widthL l).isSome ∧ ∀ w, widthL l = some w → x = wV w := by
  unfold widthL
  rcases h with ⟨e, rfl⟩ | ⟨ne, n, e, rfl⟩
  · rw [if_pos e]
    exact ⟨.inl ⟨none, rfl, (fun _ z => by cases z), rfl⟩, fun w z => by cases z; rfl⟩
  · rw [if_neg ne]
    show WidthIs K H (.int n) (match wholeL l with | some n => if 2 ≤ n ∧ n ≤ 64 then some (some n) else none | none => none).isSome ∧ ∀ w, (match wholeL l with | some n => if 2 ≤ n ∧ n ≤ 64 then some (some n) else none | none => none) = some w → V.int n = wV w
    rw [e]
    by_cases c : 2 ≤ n ∧ n ≤ 64
    · simp only [if_pos c]
      exact ⟨.inl ⟨some n, rfl, (fun _ z => by cases z; exact c), rfl⟩, fun w z => by cases z; rfl⟩
    · simp only [if_neg c]
      exact ⟨.inr (.inl ⟨n, rfl, c, rfl⟩), fun w z => by cases z⟩
theorem point_is (K : PySem.W.Frag) (H : Hp) (l : List Nat) : PointIs K H (oV (wholeL l)) (pointL l).isSome ∧ ∀ p, pointL l = some p → oV (wholeL l) = .int p := by
  unfold pointL
  cases e : wholeL l with
  | none => exact ⟨.inr ⟨rfl, .inr (.inr ⟨rfl, _, .base .non, by decide +kernel⟩)⟩, fun p z => by cases z⟩
  | some n =>
    by_cases c : -64 ≤ n ∧ n ≤ 64
    · simp only [if_pos c]
      exact ⟨.inl ⟨n, rfl, (decide_eq_true c).symm⟩, fun p z => by cases z; rfl⟩
    · simp only [if_neg c]
      exact ⟨.inl ⟨n, rfl, (decide_eq_false c).symm⟩, fun p z => by cases z⟩
def spShowFm (C : Addr) : Sp := fun vs H Q _ => ∃ (p : Addr) (w : Option Int) (pt : Int) (m : Mn) (st : Bool), vs = [.ref p] ∧ FormAt C H p w pt m st ∧ Q (sV (formT w pt m st)) H
def spFormOf (C : Addr) : Sp := fun vs H Q _ => ∃ l : List Nat, vs = [sV l] ∧ l.length ≤ 90000 ∧ (rdF l = none → ∀ H', Same H H' → Q .non H') ∧ ∀ w pt m st, rdF l = some (w, pt, m, st) → ∀ p H', Same H H' → H p = none → FormAt C H' p w pt m st → Q (.ref p) H'
def spReadFm (K : PySem.W.Frag) (C CT : Addr) : Sp := fun vs H Q E => ∃ x : V, vs = [x] ∧ ((∃ l, x = sV l ∧ l.length ≤ 90000 ∧ (rdF l = none → Raised CT "line" H E) ∧ ∀ w pt m st, rdF l = some (w, pt, m, st) → ∀ p H', Same H H' → H p = none → FormAt C H' p w pt m st → Q (.ref p) H') ∨ (NoTxt K H x ∧ Raised CT "line" H E))
theorem made_same {H H' : Hp} {x dx C : Addr} (hx : H x = none) (hdx : H dx = none) (kp : ∀ b o, b ≠ x → (upd (upd H dx (.own x)) x (.ins C dx [])) b = some o → H' b = some o) : Same H H' := fun b o e => kp b o (ne_of_none e hx) (by rw [upd_ne (ne_of_none e hx), upd_ne (ne_of_none e hdx)]; exact e)
theorem emp_ne (l : List Nat) : ¬ l = [] → (SX.S l).length ≠ 0 := fun h e => h (List.length_eq_zero_iff.mp (by rw [← e, SX.S_len]))
section
variable {P : Program} {w : World} {K : PySem.W.Frag} {mg : Str → Option Value} {base : Heap}
theorem sc_show_form : FnScope ["form"] ["form"] (defScope s_show_form) := ⟨rfl, rfl, rfl, by decide +kernel, rfl, by decide +kernel, by decide +kernel⟩
theorem ok_show_form {f : Addr} {fd : FuncData} {C : Addr} {fS : Addr} {fdS : FuncData} (okS : FnOk P w K mg base CX0 1 fS fdS ["self"] (spStrF C)) (bS : Binds K fdS ["self"] []) (MS : OwnM K C "__str__" fS) (F : Fun K "show_form" "show_form" s_show_form f fd) (z : Zs mg) : FnOk P w K mg base CX0 4 f fd ["form"] (spShowFm C) := by
  refine F.ok sc_show_form (fun vs H Q E h => ?_) (fun cdv A outer s H vs Q E hr h => ?_)
  · obtain ⟨p, w, pt, m, st, rfl, _⟩ := h
    rfl
  · obtain ⟨p, w, pt, m, st, rfl, hf, q⟩ := h
    refine ⟨_, (pss_one (ps_ret (pe_callTy (call_strO okS bS MS hr) (by rfl) z.str (by decide +kernel) (pa_cons (pv 0) pa_nil)))), ?_⟩
    obtain ⟨dx, ho⟩ := hf.ob
    refine ⟨_, rfl, p, dx, _, rfl, ho, p, w, pt, m, st, rfl, hf, _, rfl, ?_⟩
    rw [strF_S]
    exact q
theorem sc_form_of : FnScope ["text", "words", "width_text", "dot", "point_text", "width"] ["text"] (defScope s_form_of) := ⟨rfl, rfl, rfl, by decide +kernel, rfl, by decide +kernel, by decide +kernel⟩
theorem ok_form_of {f : Addr} {fd : FuncData} {dM C CB : Addr} (NM : NoMan K dM) (gB : mg "BadForm" = some (.ref CB)) (xB : PySem.W.exmOne K (.ref CB) (.ref CB) = some true) {TFr : Tok} (g_FREE : mg "FREE" = some (.str "free" TFr)) (F : Fun K "form_of" "form_of" s_form_of f fd) (z : Zs mg) (c_whole_of : Cal P w K mg base 1 "whole_of" ["text"] spWholeOf) (c_Form : CalCX P w K mg base 3 "Form" C ["self", "width", "point", "manner", "ends"] [] (spInitB K dM C CB)) : FnOk P w K mg base CX0 5 f fd ["text"] (spFormOf C) := by
  refine F.ok sc_form_of (fun vs H Q E h => ?_) (fun cdv A outer s H vs Q E hr h => ?_)
  · obtain ⟨l, rfl, _⟩ := h
    rfl
  · obtain ⟨l, rfl, hl, q1, q2⟩ := h
    refine ⟨_, (pss_cons (ps_set (i := 1) sc_form_of.nd rfl (.inl rfl) (pe_split (pv 0) pe_str))
      (pss_cons (ps_if (pt_cmpR op_ne (pe_callB call_len_seq (by rfl) z.len PySem.boot_len (pa_cons (pv 1) pa_nil)) pe_int (nomark _)) (pss_one (ps_ret pe_non)) pss_nil)
      (pss_cons (ps_asg (pe_partition (pe_ix ix_list (pv 1) pe_int (fun _ _ => rfl)) pe_str) (pg_tup (by rfl) (pgs_cons (pg_name (i := 2) sc_form_of.nd rfl (.inl rfl)) (pgs_cons (pg_name (i := 3) sc_form_of.nd rfl (.inl rfl)) (pgs_cons (pg_name (i := 4) sc_form_of.nd rfl (.inl rfl)) pgs_nil)))))
      (pss_cons (ps_set (i := 5) sc_form_of.nd rfl (.inl rfl) (pe_ifExp (pt_cmpR op_eq (pv 2) (pe_glob (v := .str "free") (by rfl) g_FREE ⟨_, rfl⟩) (nomark _)) pe_non (pe_cal c_whole_of hr (pa_cons (pv 2) pa_nil))))
      (pss_cons (ps_if (PW.pt (pw_and (pt_cmpR op_isN (pv 5) pe_non (nomark _)) (pw_and1 (pt_cmpR op_ne (pv 2) (pe_glob (v := .str "free") (by rfl) g_FREE ⟨_, rfl⟩) (nomark _))))) (pss_one (ps_ret pe_non)) pss_nil)
      (pss_one (ps_try_only (c := .ref CB) (tb := fun W => tRet (tMakeS C (spInitB K dM C CB) [] W (tCons (tVar 5) (tCons (tCall spWholeOf [] E0 (tCons (tVar 4) tNil)) (tCons (tOp (rIxL K) (tVar 1) (tC (.int 1))) (tCons (tOp (rIxL K) (tVar 1) (tC (.int 2))) tNil)))))) (ts := fun _ _ _ => tRet (tC .non)) rfl rfl ⟨rfl, by decide, .inl gB⟩ takes0 (fun W pn xe tk _ => pss_one (ps_ret (pe_calcS c_Form hr tk (pa_cons (pv 5) (pa_cons (pe_cal c_whole_of hr (pa_cons (pv 4) pa_nil)) (pa_cons (pe_ix ix_list (pv 1) pe_int (fun _ _ => rfl)) (pa_cons (pe_ix ix_list (pv 1) pe_int (fun _ _ => rfl)) pa_nil))))))) (fun a oe cls d pn hz hf => pss_one (ps_ret pe_non))))))))), ?_⟩
    have ls : (SX.S l).length + 2 ≤ sizeLine := by rw [SX.S_len]; exact sl_le (by omega)
    unfold rdF at q1 q2
    obtain ⟨sz1, sz2⟩ := spl_sizes 32 l []
    refine ⟨_, rfl, ⟨_, rfl⟩, _, _, rfl, rfl, rfl, ls, fun Wd hWd => ?_⟩
    have s1 := same_new (o := .lst ((Txt.split (SX.S l) (Str.ofString " ")).map V.str)) hWd
    have hW : (upd H Wd (.lst ((Txt.split (SX.S l) (Str.ofString " ")).map V.str))) Wd = some (.lst ((TL.spl [32] 0 [] l).map sV)) := by rw [← split_at 32 (by decide) l]; exact upd_same
    generalize upd H Wd (.lst ((Txt.split (SX.S l) (Str.ofString " ")).map V.str)) = H1 at *
    generalize TL.spl [32] 0 [] l = ws at *
    refine ⟨_, rfl, Wd, _, rfl, .inl (SqL.of hW), rfl, _, rfl, ?_⟩
    by_cases c3 : ws.length = 3
    case neg =>
      refine iteC (d := true) ?_ (iteT (q1 ?_ _ s1))
      · rw [List.length_map, Bool.not_eq_true', decide_eq_false_iff_not]
        exact fun z => c3 (by have := V.int.inj z; omega)
      · match ws, c3 with
        | [], _ => rfl
        | [_], _ => rfl
        | [_, _], _ => rfl
        | [_, _, _], c => exact absurd rfl c
        | _ :: _ :: _ :: _ :: _, _ => rfl
    match ws, c3 with
    | [a, b, c], _ =>
    refine iteC (d := false) rfl (iteF ?_)
    have la : a.length ≤ 90000 := by
      have := sz2 a (List.mem_cons_self ..)
      rw [List.length_nil] at this
      omega
    obtain ⟨ca, cb⟩ := cut_len a
    obtain ⟨zz, pp⟩ := part_S a
    refine ⟨_, rfl, Wd, _, 0, sV a, rfl, rfl, SqL.of hW, a0, ⟨_, rfl⟩, _, _, rfl, rfl, rfl, (by rw [SX.S_len]; exact sl_le (by omega)), fun tp htp => ?_⟩
    have s2 := same_new (o := .tup [.str (Txt.partition (SX.S a) (Str.ofString ".")).1, .str (Txt.partition (SX.S a) (Str.ofString ".")).2.1, .str (Txt.partition (SX.S a) (Str.ofString ".")).2.2]) htp
    refine ⟨tp, _, rfl, SqT.of upd_same, rfl, _, _, rfl, _, _, rfl, _, _, rfl, rfl, ?_⟩
    rw [show Str.ofString "." = SX.S [46] from rfl, pp] at *
    generalize upd H1 tp (.tup [.str (SX.S (cutA a), zz, SX.S (cutB a)).1, .str (SX.S (cutA a), zz, SX.S (cutB a)).2.1, .str (SX.S (cutA a), zz, SX.S (cutB a)).2.2]) = H2 at *
    have s12 := s1.trans s2
    have no : (widthL (cutA a) = none ∨ pointL (cutB a) = none ∨ mannerL b = none ∨ endsL c = none) → rdParts [a, b, c] = none := fun h => by
      show (match widthL (cutA a), pointL (cutB a), mannerL b, endsL c with
        | some w, some p, some m, some e => some (w, p, m, e)
        | _, _, _, _ => none) = none
      rcases h with e | e | e | e
      · rw [e]
      · rw [e]; cases widthL (cutA a) <;> rfl
      · rw [e]; cases widthL (cutA a) <;> cases pointL (cutB a) <;> rfl
      · rw [e]; cases widthL (cutA a) <;> cases pointL (cutB a) <;> cases mannerL b <;> rfl
    have go : ∀ (x : V) (H3 : Hp), Same H2 H3 → ((cutA a = freeL ∧ x = .non) ∨ (cutA a ≠ freeL ∧ ∃ n, wholeL (cutA a) = some n ∧ x = .int n)) → ∀ (σ : L2.St), σ[1]? = some (some (.ref Wd)) → σ[5]? = some (some x) → σ[4]? = some (some (sV (cutB a))) →
        (tRet (tMakeS C (spInitB K dM C CB) [] (wOnly K (.ref CB) (fun _ _ _ => tRet (tC .non)) (fun _ _ _ _ => False) { nx := fun _ H' => Q .non H', rt := Q }) (tCons (tVar 5) (tCons (tCall spWholeOf [] E0 (tCons (tVar 4) tNil)) (tCons (tOp (rIxL K) (tVar 1) (tC (.int 1))) (tCons (tOp (rIxL K) (tVar 1) (tC (.int 2))) tNil)))))) { nx := fun _ H' => Q .non H', rt := Q } σ H3 := fun x H3 s3 hx σ e1 e2 e3 => by
      refine ⟨_, e2, _, e3, _, rfl, by omega, fun H4 s4 => ?_⟩
      have s14 := s12.trans (s3.trans s4)
      have hW4 := s4 _ _ (s3 _ _ (s2 _ _ hW))
      refine ⟨_, e1, Wd, _, 1, sV b, rfl, rfl, SqL.of hW4, a1, _, e1, Wd, _, 2, sV c, rfl, rfl, SqL.of hW4, a2, fun p dx hp hd np => ?_⟩
      obtain ⟨wi, wv⟩ := width_is K (upd (upd H4 dx (.own p)) p (.ins C dx [])) hx
      obtain ⟨pi, pv⟩ := point_is K (upd (upd H4 dx (.own p)) p (.ins C dx [])) (cutB a)
      have sp : Same H4 (upd (upd H4 dx (.own p)) p (.ins C dx [])) := fun b o e => by
        rw [upd_ne (ne_of_none e hp), upd_ne (ne_of_none e hd)]
        exact e
      refine ⟨p, dx, x, _, _, _, _, _, _, _, rfl, upd_same, wi, pi, man_is NM _ b, ends_is K _ c, fun bad d hdd => ⟨true, xB, fun _ _ _ => ?_, fun z => nomatch z⟩, fun w pt m st x1 x2 x3 x4 H5 hf kp => ⟨rfl, ?_⟩⟩
      · refine q1 (no ?_) _ ((s14.trans sp).trans (same_new hdd))
        revert bad
        cases widthL (cutA a) with
        | none => exact fun _ => .inl rfl
        | some _ =>
          cases pointL (cutB a) with
          | none => exact fun _ => .inr (.inl rfl)
          | some _ =>
            cases mannerL b with
            | none => exact fun _ => .inr (.inr (.inl rfl))
            | some _ =>
              cases endsL c with
              | none => exact fun _ => .inr (.inr (.inr rfl))
              | some _ => exact fun z => by cases z
      · have hwo := hf.wo
        have e1 : widthL (cutA a) = some w := by
          rcases hx with ⟨hx, rfl⟩ | ⟨hx, n, hn, rfl⟩
          · cases w with
            | none => rw [hx]; rfl
            | some _ => cases x1
          · cases w with
            | none => cases x1
            | some k =>
              cases x1
              rw [← whole_back hn]
              exact widthL_wT (w := some n) hwo
        have e2 : pointL (cutB a) = some pt := by
          cases hn : wholeL (cutB a) with
          | none => rw [hn] at x2; cases x2
          | some k =>
            rw [hn] at x2
            cases x2
            rw [← whole_back hn]
            exact pointL_itx ⟨hf.p0, hf.p1⟩
        have e3 : mannerL b = some m := by
          rw [Mn.l_str] at x3
          have := SX.S_inj (V.str.inj x3)
          rw [this]
          exact mannerL_l m
        have e4 : endsL c = some st := by
          rw [endL_str] at x4
          have := SX.S_inj (V.str.inj x4)
          rw [this]
          exact endsL_l st
        refine q2 w pt m st ?_ p _ (s14.trans (made_same hp hd kp)) (s14.free hp) hf
        show (match widthL (cutA a), pointL (cutB a), mannerL b, endsL c with
          | some w, some p, some m, some e => some (w, p, m, e)
          | _, _, _, _ => none) = _
        rw [e1, e2, e3, e4]
    refine ⟨_, rfl, rfl, _, rfl, ?_⟩
    show if decide (V.str (SX.S (cutA a)) = V.str (SX.S freeL)) = true then _ else _
    rw [eq_S]
    by_cases cf : cutA a = freeL
    · refine iteC (d := true) (decide_eq_true cf) (iteT ?_)
      refine ⟨_, rfl, rfl, _, rfl, iteT ⟨_, rfl, rfl, _, rfl, ?_⟩⟩
      show if (!decide (V.str (SX.S (cutA a)) = V.str (SX.S freeL))) = true then _ else _
      rw [eq_S]
      refine iteC (d := false) (by rw [decide_eq_true cf]; rfl) (iteF ?_)
      exact go .non H2 (Same.refl _) (.inl ⟨cf, rfl⟩) _ rfl rfl rfl
    · refine iteC (d := false) (decide_eq_false cf) (iteF ?_)
      refine ⟨_, rfl, _, rfl, by omega, fun H3 s3 => ?_⟩
      refine ⟨_, rfl, rfl, _, rfl, ?_⟩
      cases hn : wholeL (cutA a) with
      | none =>
        refine iteT ⟨_, rfl, rfl, _, rfl, ?_⟩
        show if (!decide (V.str (SX.S (cutA a)) = V.str (SX.S freeL))) = true then _ else _
        rw [eq_S]
        refine iteC (d := true) (by rw [decide_eq_false cf]; rfl) (iteT ?_)
        refine q1 (no (.inl ?_)) _ (s12.trans s3)
        unfold widthL
        rw [if_neg cf]
        show (match wholeL (cutA a) with | some n => if 2 ≤ n ∧ n ≤ 64 then some (some n) else none | none => none) = _
        rw [hn]
      | some n =>
        refine iteF ?_
        exact go (.int n) H3 s3 (.inr ⟨cf, n, hn, rfl⟩) _ rfl rfl rfl
theorem sc_read_form : FnScope ["text", "form"] ["text"] (defScope s_read_form) := ⟨rfl, rfl, rfl, by decide +kernel, rfl, by decide +kernel, by decide +kernel⟩
theorem ok_read_form {f : Addr} {fd : FuncData} {CT fI : Addr} (EC : PySem.ErrX.ErrC K mg "NoText" CT) (IO : PySem.ErrX.IniOk P w K mg CT fI "line") {C : Addr} (F : Fun K "read_form" "read_form" s_read_form f fd) (z : Zs mg) (c_check_text : CalX P w K mg base 1 "check_text" ["thing"] [] (spCheck K CT)) (c_form_of : Cal P w K mg base 5 "form_of" ["text"] (spFormOf C)) : FnOk P w K mg base (L2.CX P w) 6 f fd ["text"] (spReadFm K C CT) := by
  refine F.okX sc_read_form (fun vs H Q E h => ?_) (fun cdv A outer s H vs Q E hr h => ?_)
  · obtain ⟨x, rfl, _⟩ := h
    rfl
  · obtain ⟨x, rfl, h⟩ := h
    refine ⟨_, (pss_cons (ps_expr (pe_calxS c_check_text hr (takes_of rfl rfl rfl rfl) (pa_cons (pv 0) pa_nil)))
      (pss_cons (ps_set (i := 1) sc_read_form.nd rfl (.inl rfl) (pe_cal c_form_of hr (pa_cons (pv 0) pa_nil)))
      (pss_cons (ps_if (pt_cmpR op_isN (pv 1) pe_non (nomark _)) (pss_one (ps_raiseErr rfl EC IO hr (takes_of rfl rfl rfl rfl) (by exact (pa_cons pe_int pa_nil)))) pss_nil)
      (pss_one (ps_ret (pv 1)))))), ?_⟩
    rcases h with ⟨l, rfl, hl, q1, q2⟩ | ⟨ht, q⟩
    · refine ⟨_, rfl, _, rfl, .inl ⟨_, rfl, ?_⟩⟩
      refine ⟨_, rfl, l, rfl, hl, fun e H' s' => ?_, fun w pt m st e p H' s' hp hf => ?_⟩
      · refine ⟨_, rfl, rfl, _, rfl, iteT ?_⟩
        exact ⟨_, rfl, .inr ⟨0, rfl, by decide, by decide⟩, fun d hd => q1 e d _ (s'.trans (same_new hd)) upd_same⟩
      · exact ⟨_, rfl, rfl, _, rfl, iteF ⟨_, rfl, q2 w pt m st e p H' s' hp hf⟩⟩
    · exact ⟨_, rfl, _, rfl, .inr ⟨ht, q⟩⟩
end
end E1

namespace E1
open PySem PySem.Spec PyProof.Rows L2

theorem WellAt.ne {H : Hp} {a p : Addr} {c : Int} (h : WellAt H a c) (hp : H p = none) : p ≠ a := fun e => by
  obtain ⟨x, y, z, ha, _⟩ := h
  rw [← e, hp] at ha
  cases ha
theorem small1000 {n : Nat} (h : n ≤ 1001) : n < sizeLine := Nat.lt_of_le_of_lt h (by decide)
/-- a form's parts as a tuple -/
abbrev PT4 (w : Option Int) (pt : Int) (m : Mn) (st : Bool) : HO := .tup [wV w, .int pt, .str m.str, .str (endS st)]
def spParts : Sp := fun vs H Q _ => ∃ (a : Addr) (c : Int), vs = [.ref a] ∧ WellAt H a c ∧ c ≤ 1000 ∧ ∀ w pt m st p H', WOk w → -64 ≤ pt → pt ≤ 64 → SameBut a H H' → p ≠ a → H' p = some (PT4 w pt m st) → Q (.ref p) H'
theorem sevenI {r : Int} (h0 : 0 ≤ r) (h1 : r < 7) : ∃ m : Mn, atI [V.str "down", V.str "up", V.str "in", V.str "out", V.str "half", V.str "even", V.str "far"] r = some (.str m.str) := by
  rcases (by omega : r = 0 ∨ r = 1 ∨ r = 2 ∨ r = 3 ∨ r = 4 ∨ r = 5 ∨ r = 6) with rfl | rfl | rfl | rfl | rfl | rfl | rfl
  · exact ⟨.down, rfl⟩
  · exact ⟨.up, rfl⟩
  · exact ⟨.inn, rfl⟩
  · exact ⟨.out, rfl⟩
  · exact ⟨.half, rfl⟩
  · exact ⟨.even, rfl⟩
  · exact ⟨.far, rfl⟩
theorem call_strN {X : Cx} : CallR X (.type "str") (fun xs H Q => (xs = [.non] ∧ Q (.str "None") H) ∨ ∃ i : Int, xs = [.int i] ∧ i.natAbs.log2 < 1920 ∧ Q (.str (toString i)) H) := by
  intro pins s σ H xs us Q I r h
  rcases h with h | h
  · exact call_str_non pins s σ H xs us Q I r h
  · exact call_str_int pins s σ H xs us Q I r h
def spText : Sp := fun vs H Q _ => ∃ (p : Addr) (w : Option Int) (pt : Int) (m : Mn) (st : Bool), vs = [.ref p] ∧ H p = some (PT4 w pt m st) ∧ WOk w ∧ -64 ≤ pt ∧ pt ≤ 64 ∧ ∀ H', Same H H' → Q (sV (formT w pt m st)) H'
def numIn (l : List Nat) (lo hi : Int) : Option Int := match wholeL l with
  | some n => if lo ≤ n ∧ n ≤ hi then some n else none
  | none => none
theorem text_S {w : Option Int} {pt : Int} {m : Mn} {st : Bool} {z : Str} (h : z = SX.S (wT w)) : z ++ Str.ofString "." ++ Str.ofString (toString pt) ++ Str.ofString " " ++ m.str ++ Str.ofString " " ++ endS st = SX.S (formT w pt m st) := by
  have sp : Str.ofString " " = SX.S [32] := rfl
  have dt : Str.ofString "." = SX.S [46] := rfl
  rw [h, int_itx, sp, dt, Mn.l_str, endL_str]
  unfold formT
  simp only [SX.S_cat]
  congr 1
  simp
def spNumb : Sp := fun vs H Q _ => ∃ (l : List Nat) (lo hi : Int), vs = [sV l, .int lo, .int hi] ∧ -64 ≤ lo ∧ lo ≤ 64 ∧ hi ≤ 64 ∧ lo ≤ hi ∧ Q (oV (numIn l lo hi)) H
theorem numIn_hit {l : List Nat} {lo hi n : Int} (h : itx n = l) (a : lo ≤ n) (b : n ≤ hi) (s : -64 ≤ n ∧ n ≤ 64) : numIn l lo hi = some n := by
  unfold numIn
  rw [← h, whole_itx (small_ten s)]
  exact if_pos ⟨a, b⟩
theorem numIn_no {l : List Nat} {lo hi : Int} (h : ∀ n, lo ≤ n → n ≤ hi → itx n ≠ l) : numIn l lo hi = none := by
  unfold numIn
  cases e : wholeL l with
  | none => rfl
  | some n => exact if_neg fun c => h n c.1 c.2 (whole_back e)
theorem numIn_p (l : List Nat) : numIn l (-64) 64 = pointL l := rfl
theorem width_num (l : List Nat) : widthL l = if l = freeL then some none else (numIn l 2 64).map some := by
  unfold widthL numIn
  by_cases c : l = freeL
  · rw [if_pos c, if_pos c]
  · rw [if_neg c, if_neg c]
    cases wholeL l with
    | none => rfl
    | some n =>
      by_cases k : 2 ≤ n ∧ n ≤ 64
      · simp only [if_pos k]
        rfl
      · simp only [if_neg k]
        rfl
theorem numIn_free {lo hi : Int} : numIn freeL lo hi = none := by
  have : wholeL freeL = none := by decide +kernel
  unfold numIn
  rw [this]
theorem find_any {α : Type} (p : α → Bool) : ∀ l : List α, (l.find? p).isSome = l.any p
  | [] => rfl
  | x :: r => by
    rw [List.find?_cons, List.any_cons]
    cases p x
    · exact find_any p r
    · rfl
theorem man_in (l : List Nat) : inV (sV l) [V.str "down", V.str "up", V.str "in", V.str "out", V.str "half", V.str "even", V.str "far"] = (mannerL l).isSome := by
  have e : [V.str "down", V.str "up", V.str "in", V.str "out", V.str "half", V.str "even", V.str "far"] = [Mn.down, .up, .inn, .out, .half, .even, .far].map fun m => V.str m.str := rfl
  rw [e]
  unfold inV mannerL
  rw [List.any_map, find_any]
  congr 1
  funext m
  show (m.str == SX.S l) = decide (m.l = l)
  rw [Mn.l_str, SX.S_beq_eq]
theorem end_in (l : List Nat) : inV (sV l) [V.str "wrap", V.str "stop"] = (endsL l).isSome := by
  have e : [V.str (Str.ofString "wrap"), V.str (Str.ofString "stop")] = [false, true].map fun b => V.str (endS b) := rfl
  rw [e]
  unfold inV endsL
  rw [List.any_map, find_any]
  congr 1
  funext b
  show (endS b == SX.S l) = decide (endL b = l)
  rw [endL_str, SX.S_beq_eq]
def spLRead : Sp := fun vs H Q _ => ∃ l : List Nat, vs = [sV l] ∧ l.length ≤ 90000 ∧ (rdF l = none → ∀ H', Same H H' → Q .non H') ∧ ∀ w pt m st, rdF l = some (w, pt, m, st) → ∀ p H', Same H H' → H p = none → H' p = some (PT4 w pt m st) → Q (.ref p) H'
theorem from_d (p r : List Nat) : Txt.slice (SX.S (p ++ 46 :: r)) (some ((p.length : Int) + 1)) none = SX.S r := by
  have e : p ++ 46 :: r = (p ++ [46]) ++ r := by simp
  rw [e]
  exact SX.from_app (p ++ [46]) r (by simp)
theorem rd_no {a b c : List Nat} (h : widthL (cutA a) = none ∨ pointL (cutB a) = none ∨ mannerL b = none ∨ endsL c = none) : rdParts [a, b, c] = none := by
  rw [rdParts_three]
  rcases h with e | e | e | e
  · rw [e]
  · rw [e]; cases widthL (cutA a) <;> rfl
  · rw [e]; cases widthL (cutA a) <;> cases pointL (cutB a) <;> rfl
  · rw [e]; cases widthL (cutA a) <;> cases pointL (cutB a) <;> cases mannerL b <;> rfl
section
variable {P : Program} {w : World} {K : PySem.W.Frag} {mg : Str → Option Value} {base : Heap}
theorem sc__law_parts : FnScope ["_law_well_here", "_law_width", "_law_manner"] ["_law_well_here"] (defScope s__law_parts) := ⟨rfl, rfl, rfl, by decide +kernel, rfl, by decide +kernel, by decide +kernel⟩
theorem ok__law_parts {f : Addr} {fd : FuncData} (F : Fun K "_law_parts" "_law_parts" s__law_parts f fd) (c__law_draw : Cal P w K mg base 1 "_law_draw" ["_law_well_here", "_law_many"] spDraw) : FnOk P w K mg base CX0 2 f fd ["_law_well_here"] spParts := by
  refine F.ok sc__law_parts (fun vs H Q E h => ?_) (fun cdv A outer s H vs Q E hr h => ?_)
  · obtain ⟨a, c, rfl, _⟩ := h
    rfl
  · obtain ⟨a, c, rfl, hw, hc, q⟩ := h
    refine ⟨_, (pss_cons (ps_set (i := 1) sc__law_parts.nd rfl (.inl rfl) (pe_op op_add pe_int (pe_cal c__law_draw hr (pa_cons (pv 0) (pa_cons pe_int pa_nil)))))
      (C8.pss_cut (ps_if (pt_cmpR op_eq (pe_cal c__law_draw hr (pa_cons (pv 0) (pa_cons pe_int pa_nil))) pe_int (nomark _)) (pss_one (ps_set (i := 1) sc__law_parts.nd rfl (.inl rfl) pe_non)) pss_nil)
      (pss_cons (ps_set (i := 2) sc__law_parts.nd rfl (.inl rfl) (pe_ix ix_list (pe_lst (pa_cons pe_str (pa_cons pe_str (pa_cons pe_str (pa_cons pe_str (pa_cons pe_str (pa_cons pe_str (pa_cons pe_str pa_nil)))))))) (pe_cal c__law_draw hr (pa_cons (pv 0) (pa_cons pe_int pa_nil))) (fun _ _ => rfl)))
      (pss_one (ps_ret (pe_tup (pa_cons (pv 1) (pa_cons (pe_op op_sub (pe_cal c__law_draw hr (pa_cons (pv 0) (pa_cons pe_int pa_nil))) pe_int) (pa_cons (pv 2) (pa_cons (pe_ix ix_list (pe_lst (pa_cons pe_str (pa_cons pe_str pa_nil))) (pe_cal c__law_draw hr (pa_cons (pv 0) (pa_cons pe_int pa_nil))) (fun _ _ => rfl)) pa_nil)))))))))), ?_⟩
    refine ⟨_, rfl, a, c, 63, rfl, hw, by omega, by decide, by decide, fun r1 H1 r10 r11 d1 e1 w1 => ⟨_, _, rfl, rfl, ?_⟩⟩
    refine ⟨fun σ H' => ∃ w : Option Int, σ = [some (.ref a), some (wV w), none] ∧ WOk w ∧ SameBut a H H' ∧ WellAt H' a (c + 2), ?_, fun σ H2 hM => ?_⟩
    · refine ⟨_, rfl, a, c + 1, 4, rfl, w1, by omega, by decide, by decide, fun r2 H2 r20 r21 d2 e2 w2 => ⟨rfl, _, rfl, ite2 (fun _ => ?_) (fun _ => ?_)⟩⟩
      · exact ⟨none, rfl, (fun _ z => by cases z), d1.trans d2, w2.mono (by omega)⟩
      · exact ⟨some (2 + r1), rfl, (fun x z => by cases z; omega), d1.trans d2, w2.mono (by omega)⟩
    obtain ⟨w, rfl, hwo, D2, w2⟩ := hM
    clear d1 e1 w1
    refine ⟨(by show 7 ≤ sizeLine; decide), fun l3 hl3 => ?_⟩
    have q3 := same_new (o := .lst [V.str "down", V.str "up", V.str "in", V.str "out", V.str "half", V.str "even", V.str "far"]) hl3
    have n3 : l3 ≠ a := w2.ne hl3
    refine ⟨_, rfl, a, c + 2, 7, rfl, (w2.same q3), by omega, by decide, by decide, fun r3 H3 r30 r31 d3 e3 w3 => ?_⟩
    obtain ⟨m, hm⟩ := sevenI r30 r31
    refine ⟨l3, _, r3, _, rfl, rfl, SqL.of (d3 _ _ n3 upd_same), hm, ?_⟩
    refine ⟨_, rfl, _, rfl, a, c + 2 + 1, 129, rfl, w3, by omega, by decide, by decide, fun r4 H4 r40 r41 d4 e4 w4 => ⟨_, _, rfl, rfl, _, rfl, (by show 2 ≤ sizeLine; decide), fun l5 hl5 => ?_⟩⟩
    have q5 := same_new (o := .lst [V.str "wrap", V.str "stop"]) hl5
    have n5 : l5 ≠ a := w4.ne hl5
    refine ⟨_, rfl, a, c + 2 + 1 + 1, 2, rfl, (w4.same q5), by omega, by decide, by decide, fun r5 H5 r50 r51 d5 e5 w5 => ?_⟩
    obtain ⟨st, hst⟩ : ∃ st, atI [V.str "wrap", V.str "stop"] r5 = some (.str (endS st)) := by
      rcases (by omega : r5 = 0 ∨ r5 = 1) with rfl | rfl
      · exact ⟨false, rfl⟩
      · exact ⟨true, rfl⟩
    refine ⟨l5, _, r5, _, rfl, rfl, SqL.of (d5 _ _ n5 upd_same), hst, (by show 4 ≤ sizeLine; decide), fun p hp => ?_⟩
    refine q w (r4 - 64) m st p _ hwo (by omega) (by omega) (D2.trans ((SameBut.of q3).trans (d3.trans (d4.trans ((SameBut.of q5).trans (d5.trans (SameBut.of (same_new hp)))))))) (w5.ne hp) upd_same
theorem sc__law_text : FnScope ["_law_parts_here", "_law_width", "_law_point", "_law_manner", "_law_ends"] ["_law_parts_here"] (defScope s__law_text) := ⟨rfl, rfl, rfl, by decide +kernel, rfl, by decide +kernel, by decide +kernel⟩
theorem ok__law_text {f : Addr} {fd : FuncData} {k : Nat} (F : Fun K "_law_text" "_law_text" s__law_text f fd) (z : Zs mg) : FnOk P w K mg base CX0 (k + 1) f fd ["_law_parts_here"] spText := by
  refine F.ok sc__law_text (fun vs H Q E h => ?_) (fun cdv A outer s H vs Q E hr h => ?_)
  · obtain ⟨p, w, pt, m, st, rfl, _⟩ := h
    rfl
  · obtain ⟨p, w, pt, m, st, rfl, hp, hw, h0, h1, q⟩ := h
    refine ⟨_, (pss_cons (ps_asg (pv 0) (pg_tup (by rfl) (pgs_cons (pg_name (i := 1) sc__law_text.nd rfl (.inl rfl)) (pgs_cons (pg_name (i := 2) sc__law_text.nd rfl (.inl rfl)) (pgs_cons (pg_name (i := 3) sc__law_text.nd rfl (.inl rfl)) (pgs_cons (pg_name (i := 4) sc__law_text.nd rfl (.inl rfl)) pgs_nil))))))
      (pss_one (ps_ret (pe_op op_add_str (pe_op op_add_str (pe_op op_add_str (pe_op op_add_str (pe_op op_add_str (pe_op op_add_str (pe_ix ix_list (pe_lst (pa_cons pe_str (pa_cons (pe_callTy call_strN (by rfl) z.str (by decide +kernel) (pa_cons (pv 1) pa_nil)) pa_nil))) (pe_callTy call_int1 (by rfl) z.int (by decide +kernel) (pa_cons (pe_cmpR op_notN (pv 1) pe_non (nomark _)) pa_nil)) (fun _ _ => rfl)) pe_str) (pe_callTy call_str_int (by rfl) z.str (by decide +kernel) (pa_cons (pv 2) pa_nil))) pe_str) (pv 3)) pe_str) (pv 4))))), ?_⟩
    refine ⟨_, rfl, p, _, rfl, SqT.of hp, rfl, _, _, rfl, _, _, rfl, _, _, rfl, _, _, rfl, rfl, ?_⟩
    have lp := ts_len h0 h1
    have lm := m_len m
    have le := e_len st
    cases w with
    | none =>
      refine ⟨_, rfl, .inl ⟨rfl, (by show 2 ≤ sizeLine; decide), fun l hl => ⟨_, rfl, rfl, .inr ⟨_, rfl, ⟨l, _, 0, .str "free", rfl, rfl, SqL.of upd_same, a0, ?_⟩⟩⟩⟩⟩
      have lz : (Str.ofString "free").length = 4 := by decide +kernel
      refine ⟨_, _, rfl, rfl, (by simp only [Str.length_append, SX.S_len, le2, le3]; exact sl_le (by omega)), _, rfl, _, rfl, lg h0 h1, _, _, rfl, rfl, (by simp only [Str.length_append, SX.S_len, le2, le3]; exact sl_le (by omega)), _, _, rfl, rfl, (by simp only [Str.length_append, SX.S_len, le2, le3]; exact sl_le (by omega)), _, rfl, _, _, rfl, rfl, (by simp only [Str.length_append, SX.S_len, le2, le3]; exact sl_le (by omega)), _, _, rfl, rfl, (by simp only [Str.length_append, SX.S_len, le2, le3]; exact sl_le (by omega)), _, rfl, _, _, rfl, rfl, (by simp only [Str.length_append, SX.S_len, le2, le3]; exact sl_le (by omega)), ?_⟩
      rw [text_S (w := none) (z := Str.ofString "free") rfl]
      exact q _ (same_new hl)
    | some n =>
      obtain ⟨n0, n1⟩ := hw n rfl
      have lz := ts_len (i := n) (by omega) n1
      refine ⟨_, rfl, .inr ⟨n, rfl, lg (by omega) n1, (by show 2 ≤ sizeLine; decide), fun l hl => ⟨_, rfl, rfl, .inr ⟨_, rfl, ⟨l, _, 1, .str (toString n), rfl, rfl, SqL.of upd_same, a1, ?_⟩⟩⟩⟩⟩
      refine ⟨_, _, rfl, rfl, (by simp only [Str.length_append, SX.S_len, le2, le3]; exact sl_le (by omega)), _, rfl, _, rfl, lg h0 h1, _, _, rfl, rfl, (by simp only [Str.length_append, SX.S_len, le2, le3]; exact sl_le (by omega)), _, _, rfl, rfl, (by simp only [Str.length_append, SX.S_len, le2, le3]; exact sl_le (by omega)), _, rfl, _, _, rfl, rfl, (by simp only [Str.length_append, SX.S_len, le2, le3]; exact sl_le (by omega)), _, _, rfl, rfl, (by simp only [Str.length_append, SX.S_len, le2, le3]; exact sl_le (by omega)), _, rfl, _, _, rfl, rfl, (by simp only [Str.length_append, SX.S_len, le2, le3]; exact sl_le (by omega)), ?_⟩
      rw [text_S (w := some n) (int_itx n)]
      exact q _ (same_new hl)
theorem sc__law_number : FnScope ["_law_word", "_law_low", "_law_high", "_law_number_here"] ["_law_word", "_law_low", "_law_high"] (defScope s__law_number) := ⟨rfl, rfl, rfl, by decide +kernel, rfl, by decide +kernel, by decide +kernel⟩
theorem ok__law_number {f : Addr} {fd : FuncData} {k : Nat} (F : Fun K "_law_number" "_law_number" s__law_number f fd) (z : Zs mg) : FnOk P w K mg base CX0 (k + 1) f fd ["_law_word", "_law_low", "_law_high"] spNumb := by
  refine F.ok sc__law_number (fun vs H Q E h => ?_) (fun cdv A outer s H vs Q E hr h => ?_)
  · obtain ⟨l, lo, hi, rfl, _⟩ := h
    rfl
  · obtain ⟨l, lo, hi, rfl, a1, a2, a3, a4, q⟩ := h
    refine ⟨_, (pss_cons (ps_for PassesOwn.never rfl (pi_range2 (by rfl) z.range (pa_cons (pv 1) (pa_cons (pe_op op_add (pv 2) pe_int) pa_nil))) (pg_name (i := 3) sc__law_number.nd rfl (.inl rfl)) (pss_one (ps_if (pt_cmpR op_eq (pe_callTy call_str_int (by rfl) z.str (by decide +kernel) (pa_cons (pv 3) pa_nil)) (pv 0) (nomark _)) (pss_one (ps_ret (pv 3))) pss_nil)))
      (pss_one (ps_ret pe_non))), ?_⟩
    refine ⟨_, rfl, _, rfl, _, _, rfl, rfl, lo, hi + 1, rfl, ⟨by omega, by omega, by omega, by omega⟩, ?_⟩
    refine for_it walk_range (fun i σ H' => ∃ y : Option V, σ = [some (sV l), some (.int lo), some (.int hi), y] ∧ H' = H ∧ ∀ k : Nat, k < i → itx (lo + (k : Int)) ≠ l) ⟨none, rfl, rfl, fun k hk => absurd hk (Nat.not_lt_zero k)⟩ (fun _ _ _ _ _ => trivial) (fun i x σ H4 H5 hi' hP hY => ?_) (fun σ H4 hP => ?_)
    · obtain ⟨y, rfl, rfl, hn⟩ := hP
      obtain ⟨rfl, rfl⟩ := hY
      have b : -64 ≤ lo + (i : Int) ∧ lo + (i : Int) ≤ 64 := by omega
      refine ⟨_, rfl, _, rfl, lg b.1 b.2, _, rfl, rfl, _, rfl, ?_⟩
      rw [int_itx, eq_S]
      refine ite2 (fun c => ?_) (fun c => ?_)
      · refine ⟨_, rfl, ?_⟩
        rw [numIn_hit (toB c) (by omega) (by omega) b] at q
        exact q
      · refine ⟨_, rfl, rfl, fun k hk => ?_⟩
        by_cases e : k = i
        · rw [e]
          exact toNB c
        · exact hn k (by omega)
    · obtain ⟨y, rfl, rfl, hn⟩ := hP
      rw [numIn_no (fun n n0 n1 e => hn (n - lo).toNat (by omega) (by rw [show lo + (((n - lo).toNat : Nat) : Int) = n by omega]; exact e))] at q
      exact q
theorem sc__law_read : FnScope ["_law_line_text", "_law_words", "_law_at", "_law_point", "_law_width"] ["_law_line_text"] (defScope s__law_read) := ⟨rfl, rfl, rfl, by decide +kernel, rfl, by decide +kernel, by decide +kernel⟩
theorem ok__law_read {f : Addr} {fd : FuncData} (F : Fun K "_law_read" "_law_read" s__law_read f fd) (z : Zs mg) (c__law_number : Cal P w K mg base 1 "_law_number" ["_law_word", "_law_low", "_law_high"] spNumb) : FnOk P w K mg base CX0 2 f fd ["_law_line_text"] spLRead := by
  refine F.ok sc__law_read (fun vs H Q E h => ?_) (fun cdv A outer s H vs Q E hr h => ?_)
  · obtain ⟨l, rfl, _⟩ := h
    rfl
  · obtain ⟨l, rfl, hl, q1, q2⟩ := h
    refine ⟨_, (pss_cons (ps_set (i := 1) sc__law_read.nd rfl (.inl rfl) (pe_split (pv 0) pe_str))
      (pss_cons (ps_if (PW.pt (pw_or (pt_cmpR op_ne (pe_callB call_len_seq (by rfl) z.len PySem.boot_len (pa_cons (pv 1) pa_nil)) pe_int (nomark _)) (pw_or1 (pt_cmpR op_notIn_sign pe_str (pe_ix ix_list (pv 1) pe_int (fun _ _ => rfl)) (by rfl))))) (pss_one (ps_ret pe_non)) pss_nil)
      (pss_cons (ps_set (i := 2) sc__law_read.nd rfl (.inl rfl) (pe_bmS PySem.F.plainAttrs_str PySem.F.slot_str_index PySem.F.type_str_index (mt_indexX rfl takes0) (pe_ix ix_list (pv 1) pe_int (fun _ _ => rfl)) (pa_cons pe_str pa_nil)))
      (pss_cons (ps_set (i := 3) sc__law_read.nd rfl (.inl rfl) (pe_cal c__law_number hr (pa_cons (pe_slice C8.sl_txt (pe_ix ix_list (pv 1) pe_int (fun _ _ => rfl)) (po_some (pe_op op_add (pv 2) pe_int)) po_none) (pa_cons (pe_un un_neg pe_int) (pa_cons pe_int pa_nil)))))
      (pss_cons (ps_set (i := 4) sc__law_read.nd rfl (.inl rfl) (pe_cal c__law_number hr (pa_cons (pe_slice C8.sl_txt (pe_ix ix_list (pv 1) pe_int (fun _ _ => rfl)) po_none (po_some (pv 2))) (pa_cons pe_int (pa_cons pe_int pa_nil)))))
      (pss_cons (ps_if (PW.pt (pw_or (pt_cmpR op_isN (pv 3) pe_non (nomark _)) (pw_or1 (PW.pt (pw_and (pt_cmpR op_isN (pv 4) pe_non (nomark _)) (pw_and1 (pt_cmpR op_ne (pe_slice C8.sl_txt (pe_ix ix_list (pv 1) pe_int (fun _ _ => rfl)) po_none (po_some (pv 2))) pe_str (nomark _)))))))) (pss_one (ps_ret pe_non)) pss_nil)
      (pss_cons (ps_if (PW.pt (pw_or (pt_cmpR op_notIn_seq (pe_ix ix_list (pv 1) pe_int (fun _ _ => rfl)) (pe_lst (pa_cons pe_str (pa_cons pe_str (pa_cons pe_str (pa_cons pe_str (pa_cons pe_str (pa_cons pe_str (pa_cons pe_str pa_nil)))))))) (by rfl)) (pw_or1 (pt_cmpR op_notIn_seq (pe_ix ix_list (pv 1) pe_int (fun _ _ => rfl)) (pe_lst (pa_cons pe_str (pa_cons pe_str pa_nil))) (by rfl))))) (pss_one (ps_ret pe_non)) pss_nil)
      (pss_one (ps_ret (pe_tup (pa_cons (pv 4) (pa_cons (pv 3) (pa_cons (pe_ix ix_list (pv 1) pe_int (fun _ _ => rfl)) (pa_cons (pe_ix ix_list (pv 1) pe_int (fun _ _ => rfl)) pa_nil)))))))))))))), ?_⟩
    have ls : (SX.S l).length + 2 ≤ sizeLine := by rw [SX.S_len]; exact sl_le (by omega)
    unfold rdF at q1 q2
    obtain ⟨sz1, sz2⟩ := spl_sizes 32 l []
    refine ⟨_, rfl, ⟨_, rfl⟩, _, _, rfl, rfl, rfl, ls, fun Wd hWd => ?_⟩
    have s1 := same_new (o := .lst ((Txt.split (SX.S l) (Str.ofString " ")).map V.str)) hWd
    have hW : (upd H Wd (.lst ((Txt.split (SX.S l) (Str.ofString " ")).map V.str))) Wd = some (.lst ((TL.spl [32] 0 [] l).map sV)) := by rw [← split_at 32 (by decide) l]; exact upd_same
    generalize upd H Wd (.lst ((Txt.split (SX.S l) (Str.ofString " ")).map V.str)) = H1 at *
    generalize TL.spl [32] 0 [] l = ws at *
    refine ⟨_, rfl, Wd, _, rfl, .inl (SqL.of hW), rfl, _, rfl, ?_⟩
    by_cases c3 : ws.length = 3
    case neg =>
      refine iteC (d := true) ?_ (iteT (q1 ?_ _ s1))
      · rw [List.length_map, Bool.not_eq_true', decide_eq_false_iff_not]
        exact fun z => c3 (by have := V.int.inj z; omega)
      · match ws, c3 with
        | [], _ => rfl
        | [_], _ => rfl
        | [_, _], _ => rfl
        | [_, _, _], c => exact absurd rfl c
        | _ :: _ :: _ :: _ :: _, _ => rfl
    match ws, c3 with
    | [a, b, c], _ =>
    refine iteC (d := false) rfl (iteF ?_)
    have la : a.length ≤ 90000 := by
      have := sz2 a (List.mem_cons_self ..)
      rw [List.length_nil] at this
      omega
    refine ⟨_, rfl, Wd, _, 0, sV a, rfl, rfl, SqL.of hW, a0, 46, _, rfl, rfl, _, rfl, ?_⟩
    show if (!decide (46 ∈ (SX.S a).cps.toList)) = true then _ else _
    rcases first_of 46 a with h46 | ⟨p, r, rfl, hp⟩
    · refine iteC (d := true) (by rw [decide_eq_false (show ¬ 46 ∈ (SX.S a).cps.toList from h46)]; rfl) (iteT (q1 (rd_no (.inr (.inl ?_))) _ s1))
      rw [(cut_no h46).2]
      rfl
    refine iteC (d := false) (by rw [decide_eq_true (show 46 ∈ (SX.S (p ++ 46 :: r)).cps.toList by show 46 ∈ p ++ 46 :: r; simp)]; rfl) (iteF ?_)
    obtain ⟨ca, cb⟩ := cut_at (q := r) hp
    have lp : (p ++ 46 :: r).length = p.length + (r.length + 1) := by rw [List.length_append, List.length_cons]
    have la2 : (SX.S (p ++ 46 :: r)).length ≤ sizeLine := by rw [SX.S_len]; exact sl_le (by omega)
    refine ⟨_, rfl, Wd, _, 0, sV (p ++ 46 :: r), rfl, rfl, SqL.of hW, a0, rfl, _, _, rfl, rfl, fun k hk => ?_, fun e => absurd ((index_at (q := r) hp).symm.trans e) (fun z => nomatch z)⟩
    have hk : k = p.length := Option.some.inj (hk.symm.trans (index_at (q := r) hp))
    subst hk
    refine ⟨_, rfl, Wd, _, 0, sV (p ++ 46 :: r), rfl, rfl, SqL.of hW, a0, _, rfl, _, _, rfl, rfl, _, rfl, _, rfl, la2, ?_⟩
    rw [from_d]
    refine ⟨_, rfl, r, -64, 64, rfl, by decide, by decide, by decide, by decide, ?_⟩
    refine ⟨_, rfl, Wd, _, 0, sV (p ++ 46 :: r), rfl, rfl, SqL.of hW, a0, _, rfl, _, rfl, _, rfl, la2, ?_⟩
    rw [SX.to_app p _ rfl]
    refine ⟨p, 2, 64, rfl, by decide, by decide, by decide, by decide, ?_⟩
    rw [numIn_p]
    refine ⟨_, rfl, rfl, _, rfl, ?_⟩
    cases ep : pointL r with
    | none => exact iteT (q1 (rd_no (.inr (.inl (by rw [cb]; exact ep)))) _ s1)
    | some pt =>
    refine iteF ⟨_, rfl, rfl, _, rfl, ?_⟩
    have wn := width_num p
    have m7 := man_in b
    have e2 := end_in c
    cases en : numIn p 2 64 with
    | none =>
      refine iteT ⟨_, rfl, Wd, _, 0, sV (p ++ 46 :: r), rfl, rfl, SqL.of hW, a0, _, rfl, _, rfl, _, rfl, la2, rfl, _, rfl, ?_⟩
      rw [SX.to_app p _ rfl]
      show if (!decide (V.str (SX.S p) = V.str (SX.S freeL))) = true then _ else _
      rw [eq_S]
      by_cases cf : p = freeL
      · refine iteC (d := false) (by rw [decide_eq_true cf]; rfl) (iteF ?_)
        have ew : widthL (cutA (p ++ 46 :: r)) = some none := by rw [ca, wn, if_pos cf]
        refine ⟨_, rfl, Wd, _, 1, sV b, rfl, rfl, SqL.of hW, a1, (by show 7 ≤ sizeLine; decide), fun L1 hL1 => ⟨L1, _, rfl, .inl (SqL.of upd_same), rfl, rfl, _, rfl, ?_⟩⟩
        have sL1 := same_new (o := .lst [V.str "down", V.str "up", V.str "in", V.str "out", V.str "half", V.str "even", V.str "far"]) hL1
        have hW1 := sL1 _ _ hW
        refine iteC (congrArg (! ·) m7) ?_
        cases em : mannerL b with
        | none => exact iteT (q1 (rd_no (.inr (.inr (.inl em)))) _ (s1.trans sL1))
        | some m =>
        refine iteF ⟨_, rfl, Wd, _, 2, sV c, rfl, rfl, SqL.of hW1, a2, (by show 2 ≤ sizeLine; decide), fun L2 hL2 => ⟨L2, _, rfl, .inl (SqL.of upd_same), rfl, rfl, _, rfl, ?_⟩⟩
        have sL2 := same_new (o := .lst [V.str "wrap", V.str "stop"]) hL2
        have hW2 := sL2 _ _ hW1
        refine iteC (congrArg (! ·) e2) ?_
        cases ee : endsL c with
        | none => exact iteT (q1 (rd_no (.inr (.inr (.inr ee)))) _ ((s1.trans sL1).trans sL2))
        | some st =>
        refine iteF ⟨_, rfl, _, rfl, _, rfl, Wd, _, 1, sV b, rfl, rfl, SqL.of hW2, a1, _, rfl, Wd, _, 2, sV c, rfl, rfl, SqL.of hW2, a2, (by show 4 ≤ sizeLine; decide), fun o ho => ?_⟩
        have ep4 : PT4 none pt m st = .tup [wV none, .int pt, sV b, sV c] := by rw [← mannerL_some em, ← endsL_some ee, PT4, Mn.l_str, endL_str]
        refine q2 none pt m st ?_ o _ (((s1.trans sL1).trans sL2).trans (same_new ho)) (((s1.trans sL1).trans sL2).free ho) (by rw [ep4]; exact upd_same)
        rw [rdParts_three, ew, cb, ep, em, ee]
      · refine iteC (d := true) (by rw [decide_eq_false cf]; rfl) (iteT (q1 (rd_no (.inl ?_)) _ s1))
        rw [ca, wn, if_neg cf, en]
        rfl
    | some n =>
      refine iteF ?_
      have ew : widthL (cutA (p ++ 46 :: r)) = some (some n) := by
        rw [ca, wn, en, if_neg (fun z => by rw [z, numIn_free] at en; cases en)]
        rfl
      refine ⟨_, rfl, Wd, _, 1, sV b, rfl, rfl, SqL.of hW, a1, (by show 7 ≤ sizeLine; decide), fun L1 hL1 => ⟨L1, _, rfl, .inl (SqL.of upd_same), rfl, rfl, _, rfl, ?_⟩⟩
      have sL1 := same_new (o := .lst [V.str "down", V.str "up", V.str "in", V.str "out", V.str "half", V.str "even", V.str "far"]) hL1
      have hW1 := sL1 _ _ hW
      refine iteC (congrArg (! ·) m7) ?_
      cases em : mannerL b with
      | none => exact iteT (q1 (rd_no (.inr (.inr (.inl em)))) _ (s1.trans sL1))
      | some m =>
      refine iteF ⟨_, rfl, Wd, _, 2, sV c, rfl, rfl, SqL.of hW1, a2, (by show 2 ≤ sizeLine; decide), fun L2 hL2 => ⟨L2, _, rfl, .inl (SqL.of upd_same), rfl, rfl, _, rfl, ?_⟩⟩
      have sL2 := same_new (o := .lst [V.str "wrap", V.str "stop"]) hL2
      have hW2 := sL2 _ _ hW1
      refine iteC (congrArg (! ·) e2) ?_
      cases ee : endsL c with
      | none => exact iteT (q1 (rd_no (.inr (.inr (.inr ee)))) _ ((s1.trans sL1).trans sL2))
      | some st =>
      refine iteF ⟨_, rfl, _, rfl, _, rfl, Wd, _, 1, sV b, rfl, rfl, SqL.of hW2, a1, _, rfl, Wd, _, 2, sV c, rfl, rfl, SqL.of hW2, a2, (by show 4 ≤ sizeLine; decide), fun o ho => ?_⟩
      have ep4 : PT4 (some n) pt m st = .tup [wV (some n), .int pt, sV b, sV c] := by rw [← mannerL_some em, ← endsL_some ee, PT4, Mn.l_str, endL_str]
      refine q2 (some n) pt m st ?_ o _ (((s1.trans sL1).trans sL2).trans (same_new ho)) (((s1.trans sL1).trans sL2).free ho) (by rw [ep4]; exact upd_same)
      rw [rdParts_three, ew, cb, ep, em, ee]
end
end E1

namespace E1
open PySem PySem.Spec PyProof.Rows L2

/-- a new object, its heap named -/
theorem upd_gen {H G : Hp} {p : Addr} {o : HO} (e : upd H p o = G) (hp : H p = none) : Same H G ∧ G p = some o := by
  subst e
  exact ⟨same_new hp, upd_same⟩
/-- a list of short texts that is not the well -/
structure LB (a : Addr) (H : Hp) (p : Addr) : Prop where
  ne : p ≠ a
  at_ : ∃ ys : List Str, H p = some (.lst (ys.map V.str)) ∧ ys.length ≤ 5 ∧ ∀ y ∈ ys, y.length ≤ 200
theorem LB.but {a p : Addr} {H H' : Hp} (h : LB a H p) (s : SameBut a H H') : LB a H' p := by
  obtain ⟨ys, e, l⟩ := h.at_
  exact ⟨h.ne, ys, s _ _ h.ne e, l⟩
theorem shN : ∀ y ∈ ([] : List Str), y.length ≤ 200 := fun y h => nomatch h
theorem shC {x : Str} {xs : List Str} (h : x.length ≤ 200) (t : ∀ y ∈ xs, y.length ≤ 200) : ∀ y ∈ x :: xs, y.length ≤ 200 := fun y hy => by
  rcases List.mem_cons.mp hy with rfl | hy
  · exact h
  · exact t y hy
theorem bagN {a : Addr} {H : Hp} : ∀ p ∈ ([] : List Addr), LB a H p := fun p h => nomatch h
theorem bagC {a : Addr} {H : Hp} {x : Addr} {xs : List Addr} (t : ∀ p ∈ xs, LB a H p) (h : LB a H x) : ∀ p ∈ xs ++ [x], LB a H p := fun p hp => by
  rcases List.mem_append.mp hp with hp | hp
  · exact t p hp
  · rw [List.mem_singleton.mp hp]
    exact h
theorem bag_pick {a : Addr} {H : Hp} {ps : List Addr} {r : Int} (t : ∀ p ∈ ps, LB a H p) (h0 : 0 ≤ r) (h1 : r < ps.length) : ∃ p, atI (ps.map V.ref) r = some (.ref p) ∧ LB a H p := by
  have hk : r.toNat < ps.length := by omega
  obtain ⟨k, rfl⟩ : ∃ k : Nat, r = (k : Int) := ⟨r.toNat, by omega⟩
  rw [Int.toNat_natCast] at hk
  refine ⟨ps[k], atI_nat ?_, t _ (List.getElem_mem hk)⟩
  rw [List.getElem?_map, List.getElem?_eq_getElem hk]
  rfl
theorem sum_short : ∀ ys : List Str, (∀ y ∈ ys, y.length ≤ 200) → (ys.map (·.length)).sum ≤ 200 * ys.length
  | [], _ => by simp
  | y :: r, h => by
    have a := h y (List.mem_cons_self ..)
    have ih := sum_short r (fun m hm => h m (List.mem_cons_of_mem _ hm))
    simp only [List.map_cons, List.sum_cons, List.length_cons] at ih ⊢
    omega
theorem join_short : ∀ ys : List Str, (∀ y ∈ ys, y.length ≤ 200) → ∀ z : Str, (Str.join z ys).length ≤ (200 + z.length) * ys.length
  | [], _, z => by
    show (Str.join z []).length ≤ _
    exact Nat.zero_le _
  | [y], h, z => by
    have a := h y (List.mem_cons_self ..)
    show y.length ≤ _
    simp only [List.length_singleton]
    omega
  | y :: x :: r, h, z => by
    have a := h y (List.mem_cons_self ..)
    have ih := join_short (x :: r) (fun m hm => h m (List.mem_cons_of_mem _ hm)) z
    have e := congrArg List.length (TL.tl_join z (y :: x :: r))
    have e2 := congrArg List.length (TL.tl_join z (x :: r))
    rw [← TL.len_tl] at e e2
    have e3 : (TL.joinL (TL.tl z) ((y :: x :: r).map TL.tl)).length = (TL.tl y).length + ((TL.tl z).length + (TL.joinL (TL.tl z) ((x :: r).map TL.tl)).length) := by
      show ((TL.tl y) ++ ((TL.tl z) ++ TL.joinL (TL.tl z) ((x :: r).map TL.tl))).length = _
      rw [List.length_append, List.length_append]
    rw [← TL.len_tl, ← TL.len_tl] at e3
    simp only [List.length_cons] at ih ⊢
    have : (200 + z.length) * (r.length + 1 + 1) = (200 + z.length) * (r.length + 1) + (200 + z.length) := by rw [Nat.mul_succ]
    omega
def spSpoilF : Sp := fun vs H Q _ => ∃ (w : Option Int) (pt : Int) (m : Mn) (st : Bool) (a : Addr) (c : Int), vs = [sV (formT w pt m st), .ref a] ∧ WOk w ∧ (-64 ≤ pt ∧ pt ≤ 64) ∧ WellAt H a c ∧ 0 ≤ c ∧ c ≤ 1000 ∧ ∀ (z : Str) (H' : Hp), z.length ≤ 80000 → SameBut a H H' → WellAt H' a (c + 4) → Q (.str z) H'
section
variable {P : Program} {w : World} {K : PySem.W.Frag} {mg : Str → Option Value} {base : Heap}
theorem sc__law_spoilt : FnScope ["_law_line_text", "_law_well_here", "_law_sort", "_law_at", "_law_sign", "_law_words", "_law_some"] ["_law_line_text", "_law_well_here"] (defScope s__law_spoilt) := ⟨rfl, rfl, rfl, by decide +kernel, rfl, by decide +kernel, by decide +kernel⟩
theorem ok__law_spoilt {f : Addr} {fd : FuncData} (F : Fun K "_law_spoilt" "_law_spoilt" s__law_spoilt f fd) (z : Zs mg) (c__law_draw : Cal P w K mg base 1 "_law_draw" ["_law_well_here", "_law_many"] spDraw) : FnOk P w K mg base CX0 2 f fd ["_law_line_text", "_law_well_here"] spSpoilF := by
  refine F.ok sc__law_spoilt (fun vs H Q E h => ?_) (fun cdv A outer s H vs Q E hr h => ?_)
  · obtain ⟨w, pt, m, st, a, c, rfl, _⟩ := h
    rfl
  · obtain ⟨w, pt, m, st, a, c, rfl, hwo, hpt, hw, c0, c1, q⟩ := h
    refine ⟨_, (pss_cons (ps_set (i := 2) sc__law_spoilt.nd rfl (.inl rfl) (pe_cal c__law_draw hr (pa_cons (pv 1) (pa_cons pe_int pa_nil))))
      (pss_cons (ps_set (i := 3) sc__law_spoilt.nd rfl (.inl rfl) (pe_cal c__law_draw hr (pa_cons (pv 1) (pa_cons (pe_op op_add (pe_callB call_len_str (by rfl) z.len PySem.boot_len (pa_cons (pv 0) pa_nil)) pe_int) pa_nil))))
      (pss_cons (ps_set (i := 4) sc__law_spoilt.nd rfl (.inl rfl) (pe_ix ix_list (pe_lst (pa_cons pe_str (pa_cons pe_str (pa_cons pe_str (pa_cons pe_str (pa_cons pe_str (pa_cons pe_str (pa_cons pe_str (pa_cons pe_str (pa_cons pe_str (pa_cons pe_str pa_nil))))))))))) (pe_cal c__law_draw hr (pa_cons (pv 1) (pa_cons pe_int pa_nil))) (fun _ _ => rfl)))
      (pss_cons (ps_if (pt_cmpR op_eq (pv 2) pe_int (nomark _)) (pss_one (ps_ret (pe_op op_add_str (pe_slice C8.sl_txt (pv 0) po_none (po_some (pv 3))) (pe_slice C8.sl_txt (pv 0) (po_some (pe_op op_add (pv 3) pe_int)) po_none)))) pss_nil)
      (pss_cons (ps_if (pt_cmpR op_lt (pv 2) pe_int (nomark _)) (pss_one (ps_ret (pe_op op_add_str (pe_op op_add_str (pe_slice C8.sl_txt (pv 0) po_none (po_some (pv 3))) (pv 4)) (pe_slice C8.sl_txt (pv 0) (po_some (pe_op op_add (pv 3) pe_int)) po_none)))) pss_nil)
      (pss_cons (ps_if (pt_cmpR op_eq (pv 2) pe_int (nomark _)) (pss_one (ps_ret (pe_op op_add_str (pe_op op_add_str (pe_slice C8.sl_txt (pv 0) po_none (po_some (pv 3))) (pv 4)) (pe_slice C8.sl_txt (pv 0) (po_some (pv 3)) po_none)))) pss_nil)
      (pss_cons (ps_set (i := 5) sc__law_spoilt.nd rfl (.inl rfl) (pe_split (pv 0) pe_str))
      (C8.pss_cut (ps_set (i := 6) sc__law_spoilt.nd rfl (.inl rfl) (pe_lst (pa_cons (pe_revL (pv 5)) (pa_cons (pe_slice sl_list (pv 5) po_none (po_some pe_int)) (pa_cons (pe_op op_cat (pv 5) (pe_lst (pa_cons pe_str pa_nil))) (pa_cons (pe_lst (pa_cons (pe_ix ix_list (pv 5) pe_int (fun _ _ => rfl)) (pa_cons (pe_ix ix_list (pv 5) pe_int (fun _ _ => rfl)) (pa_cons (pe_ix ix_list (pv 5) pe_int (fun _ _ => rfl)) pa_nil)))) (pa_cons (pe_op op_cat (pe_lst (pa_cons (pe_upper (pe_ix ix_list (pv 5) pe_int (fun _ _ => rfl))) pa_nil)) (pe_slice sl_list (pv 5) (po_some pe_int) po_none)) pa_nil)))))))
      (C8.pss_cut (ps_set (i := 6) sc__law_spoilt.nd rfl (.inl rfl) (pe_op op_cat (pv 6) (pe_lst (pa_cons (pe_op op_cat (pe_lst (pa_cons (pe_op op_add_str pe_str (pe_slice C8.sl_txt (pe_ix ix_list (pv 5) pe_int (fun _ _ => rfl)) (po_some (pe_bmS PySem.F.plainAttrs_str PySem.F.slot_str_index PySem.F.type_str_index (mt_indexX rfl takes0) (pe_ix ix_list (pv 5) pe_int (fun _ _ => rfl)) (pa_cons pe_str pa_nil))) po_none)) pa_nil)) (pe_slice sl_list (pv 5) (po_some pe_int) po_none)) (pa_cons (pe_op op_cat (pe_lst (pa_cons pe_str pa_nil)) (pe_slice sl_list (pv 5) (po_some pe_int) po_none)) (pa_cons (pe_op op_cat (pe_lst (pa_cons pe_str pa_nil)) (pe_slice sl_list (pv 5) (po_some pe_int) po_none)) pa_nil))))))
      (C8.pss_cut (ps_set (i := 6) sc__law_spoilt.nd rfl (.inl rfl) (pe_op op_cat (pv 6) (pe_lst (pa_cons (pe_op op_cat (pe_lst (pa_cons (pe_op op_add_str (pe_ix ix_list (pv 5) pe_int (fun _ _ => rfl)) pe_str) pa_nil)) (pe_slice sl_list (pv 5) (po_some pe_int) po_none)) (pa_cons (pe_op op_cat (pe_lst (pa_cons pe_str pa_nil)) (pe_slice sl_list (pv 5) (po_some pe_int) po_none)) (pa_cons (pe_op op_cat (pe_lst (pa_cons pe_str pa_nil)) (pe_slice sl_list (pv 5) (po_some pe_int) po_none)) (pa_cons (pe_op op_cat (pe_lst (pa_cons pe_str pa_nil)) (pe_slice sl_list (pv 5) (po_some pe_int) po_none)) pa_nil)))))))
      (pss_one (ps_ret (pe_join pe_str (pe_ix ix_list (pv 6) (pe_cal c__law_draw hr (pa_cons (pv 1) (pa_cons pe_int pa_nil))) (fun _ _ => rfl))))))))))))))), ?_⟩
    have hl := formT_len m st hwo hpt
    have sp3 := formT_spl m st hwo hpt
    have f46 : 46 ∉ wT w := wT_free hwo (.inr rfl)
    have l0 : (wT w ++ 46 :: itx pt).length ≤ 30 := by
      unfold formT at hl
      simp only [List.length_append, List.length_cons] at hl ⊢
      omega
    have l1 : m.l.length ≤ 4 := by cases m <;> decide
    have l2 : (endL st).length ≤ 4 := by cases st <;> decide
    generalize formT w pt m st = l at *
    have ls : (SX.S l).length ≤ sizeLine := by rw [SX.S_len]; exact sl_le (by omega)
    refine ⟨_, rfl, a, c, 6, rfl, hw, by omega, by decide, by decide +kernel, fun r H1 r0 r1 b1 n1 w1 => ?_⟩
    refine ⟨_, rfl, _, rfl, _, rfl, ls, _, _, rfl, rfl, a, c + 1, _, rfl, w1, by omega, by omega, ?_, fun i H2 i0 i1 b2 n2 w2 => ?_⟩
    · rw [SX.S_len]
      refine Nat.lt_of_le_of_lt (show ((l.length : Int) + 1).natAbs ≤ 100000 by omega) (by decide +kernel)
    rw [SX.S_len] at i1
    refine ⟨(by show 10 ≤ sizeLine; decide), fun p hp => ?_⟩
    have s3 := same_new (o := .lst ([48, 32, 45, 46, 49, 54, 115, 120, 10, 87].map fun c => sV [c])) hp
    refine ⟨_, rfl, a, c + 1 + 1, 10, rfl, w2.same s3, by omega, by decide, by decide +kernel, fun j H4 j0 j1 b4 n4 w4 => ?_⟩
    have np : p ≠ a := w2.ne hp
    have hp4 : H4 p = some (.lst ([48, 32, 45, 46, 49, 54, 115, 120, 10, 87].map fun c => sV [c])) := b4 _ _ np upd_same
    obtain ⟨x, hx⟩ : ∃ x : Nat, atI ([48, 32, 45, 46, 49, 54, 115, 120, 10, 87].map fun c => sV [c]) j = some (sV [x]) := by
      have jn : j.toNat < 10 := by omega
      have key : ∀ k : Fin 10, ∃ x : Nat, ([48, 32, 45, 46, 49, 54, 115, 120, 10, 87].map fun c => sV [c])[k.val]? = some (sV [x]) := fun k => ⟨[48, 32, 45, 46, 49, 54, 115, 120, 10, 87][k.val]'k.isLt, by rw [List.getElem?_map, List.getElem?_eq_getElem (show k.val < [48, 32, 45, 46, 49, 54, 115, 120, 10, 87].length from k.isLt)]; rfl⟩
      obtain ⟨x, hx⟩ := key ⟨j.toNat, jn⟩
      refine ⟨x, ?_⟩
      have e : j = ((j.toNat : Nat) : Int) := by omega
      rw [e]
      exact atI_nat hx
    refine ⟨p, _, j, _, rfl, rfl, SqL.of hp4, hx, ?_⟩
    have bt : SameBut a H H4 := b1.trans (b2.trans ((SameBut.of s3).trans b4))
    have wt : WellAt H4 a (c + 3) := w4.mono (by omega)
    have i2 : i.toNat ≤ l.length := by omega
    have fin : ∀ (k : List Nat) (G : Hp), k.length ≤ 80000 → G = H4 → Q (sV k) G := fun k G hk e => by
      subst e
      exact q _ _ (by rw [SX.S_len]; exact hk) bt (wt.mono (by omega))
    refine ⟨_, rfl, rfl, _, rfl, ?_⟩
    by_cases k0 : r = 0
    · refine iteC (d := true) (by rw [k0]; rfl) (iteT ?_)
      refine ⟨_, rfl, _, rfl, _, rfl, _, rfl, ls, ?_⟩
      rw [SX.slice_to i0]
      refine ⟨_, rfl, _, rfl, _, _, rfl, rfl, _, rfl, _, rfl, ls, ?_⟩
      rw [SX.slice_from (by omega)]
      refine ⟨_, _, rfl, rfl, ?_, ?_⟩
      · rw [SX.S_len, SX.S_len, List.length_take, List.length_drop]
        exact sl_le (by omega)
      · rw [SX.S_cat]
        refine fin _ _ ?_ rfl
        rw [List.length_append, List.length_take, List.length_drop]
        omega
    refine iteC (d := false) (by rw [decide_eq_false_iff_not]; exact fun z => k0 (V.int.inj z)) (iteF ⟨_, rfl, _, _, rfl, rfl, _, rfl, ?_⟩)
    refine ite2 (fun k3 => ?_) (fun k3 => ?_)
    · refine ⟨_, rfl, _, rfl, _, rfl, _, rfl, ls, ?_⟩
      rw [SX.slice_to i0]
      refine ⟨_, rfl, _, _, rfl, rfl, ?_, ?_⟩
      · rw [SX.S_len, SX.S_len, List.length_take]
        exact sl_le (by simp only [List.length_singleton]; omega)
      refine ⟨_, rfl, _, rfl, _, _, rfl, rfl, _, rfl, _, rfl, ls, ?_⟩
      rw [SX.slice_from (by omega), SX.S_cat]
      refine ⟨_, _, rfl, rfl, ?_, ?_⟩
      · rw [SX.S_len, SX.S_len, List.length_append, List.length_take, List.length_drop]
        exact sl_le (by simp only [List.length_singleton]; omega)
      · rw [SX.S_cat]
        refine fin _ _ ?_ rfl
        rw [List.length_append, List.length_append, List.length_take, List.length_drop, List.length_singleton]
        omega
    refine ⟨_, rfl, rfl, _, rfl, ?_⟩
    by_cases k4 : r = 3
    · refine iteC (d := true) (by rw [k4]; rfl) (iteT ?_)
      refine ⟨_, rfl, _, rfl, _, rfl, _, rfl, ls, ?_⟩
      rw [SX.slice_to i0]
      refine ⟨_, rfl, _, _, rfl, rfl, ?_, ?_⟩
      · rw [SX.S_len, SX.S_len, List.length_take]
        exact sl_le (by simp only [List.length_singleton]; omega)
      refine ⟨_, rfl, _, rfl, _, rfl, _, rfl, ls, ?_⟩
      rw [SX.slice_from i0, SX.S_cat]
      refine ⟨_, _, rfl, rfl, ?_, ?_⟩
      · rw [SX.S_len, SX.S_len, List.length_append, List.length_take, List.length_drop]
        exact sl_le (by simp only [List.length_singleton]; omega)
      · rw [SX.S_cat]
        refine fin _ _ ?_ rfl
        rw [List.length_append, List.length_append, List.length_take, List.length_drop, List.length_singleton]
        omega
    refine iteC (d := false) (by rw [decide_eq_false_iff_not]; exact fun z => k4 (V.int.inj z)) (iteF ?_)
    clear fin hx hp4 np b1 b2 n1 n2 n4 w1 w2 b4 s3
    refine ⟨_, rfl, ⟨_, rfl⟩, _, _, rfl, rfl, rfl, (by rw [SX.S_len]; exact sl_le (by omega)), fun Wd hWd => ?_⟩
    have nW := wt.ne hWd
    have s1 := same_new (o := .lst ((Txt.split (SX.S l) (Str.ofString " ")).map V.str)) hWd
    have hW : (upd H4 Wd (.lst ((Txt.split (SX.S l) (Str.ofString " ")).map V.str))) Wd = some (.lst [sV (wT w ++ 46 :: itx pt), sV m.l, sV (endL st)]) := by
      rw [show [sV (wT w ++ 46 :: itx pt), sV m.l, sV (endL st)] = [wT w ++ 46 :: itx pt, m.l, endL st].map sV from rfl, ← sp3, ← split_at 32 (by decide) l]
      exact upd_same
    generalize upd H4 Wd (.lst ((Txt.split (SX.S l) (Str.ofString " ")).map V.str)) = H5 at *
    have wl := wt.same s1
    have SB : SameBut a H H5 := bt.trans (.of s1)
    have bag : ∀ p ∈ ([] : List Addr), LB a H5 p := bagN
    clear bt wt s1 hWd w4 sp3
    refine ⟨fun σ G => ∃ (L : Addr) (ps : List Addr), σ = [some (sV l), some (.ref a), some (.int r), some (.int i), some (sV [x]), some (.ref Wd), some (.ref L)] ∧ G L = some (.lst (ps.map V.ref)) ∧ L ≠ a ∧ ps.length = 5 ∧ SameBut a H G ∧ WellAt G a (c + 3) ∧ G Wd = some (.lst [sV (wT w ++ 46 :: itx pt), sV m.l, sV (endL st)]) ∧ ∀ p ∈ ps, LB a G p, ?_, fun σ G hM => ?_⟩
    ·
      refine ⟨_, rfl, Wd, _, rfl, SqL.of hW, fun l1 hl1 => ?_⟩
      generalize hG : upd _ l1 _ = G
      obtain ⟨s, h_l1⟩ := upd_gen hG hl1
      replace hW := s _ _ hW
      have n_l1 := wl.ne hl1
      replace wl := wl.same s
      replace SB := SB.trans (.of s)
      replace bag := fun p hp => (bag p hp).but (.of s)
      clear hG hl1
      replace bag := bagC bag (x := l1) ⟨n_l1, [SX.S (endL st), SX.S m.l, SX.S (wT w ++ 46 :: itx pt)], h_l1, by show 3 ≤ 5; decide, (shC (by rw [SX.S_len]; omega) (shC (by rw [SX.S_len]; omega) (shC (by rw [SX.S_len]; omega) shN)))⟩
      refine ⟨_, rfl, _, rfl, Wd, _, rfl, SqL.of hW, fun l2 hl2 => ?_⟩
      generalize hG : upd _ l2 _ = G
      obtain ⟨s, h_l2⟩ := upd_gen hG hl2
      replace hW := s _ _ hW
      have n_l2 := wl.ne hl2
      replace wl := wl.same s
      replace SB := SB.trans (.of s)
      replace bag := fun p hp => (bag p hp).but (.of s)
      clear hG hl2
      replace bag := bagC bag (x := l2) ⟨n_l2, [SX.S (wT w ++ 46 :: itx pt), SX.S m.l], h_l2, by show 2 ≤ 5; decide, (shC (by rw [SX.S_len]; omega) (shC (by rw [SX.S_len]; omega) shN))⟩
      refine ⟨_, rfl, (by show 1 ≤ sizeLine; decide), fun u3 hu3 => ?_⟩
      generalize hG : upd _ u3 _ = G
      obtain ⟨s, h_u3⟩ := upd_gen hG hu3
      replace hW := s _ _ hW
      have n_u3 := wl.ne hu3
      replace wl := wl.same s
      replace SB := SB.trans (.of s)
      replace bag := fun p hp => (bag p hp).but (.of s)
      clear hG hu3
      refine ⟨_, _, _, _, rfl, rfl, hW, h_u3, (by show 4 ≤ sizeLine; decide), fun l3 hl3 => ?_⟩
      generalize hG : upd _ l3 _ = G
      obtain ⟨s, h_l3⟩ := upd_gen hG hl3
      replace hW := s _ _ hW
      have n_l3 := wl.ne hl3
      replace wl := wl.same s
      replace SB := SB.trans (.of s)
      replace bag := fun p hp => (bag p hp).but (.of s)
      clear hG hl3
      replace bag := bagC bag (x := l3) ⟨n_l3, [SX.S (wT w ++ 46 :: itx pt), SX.S m.l, SX.S (endL st), (Str.ofString "wrap")], h_l3, by show 4 ≤ 5; decide, (shC (by rw [SX.S_len]; omega) (shC (by rw [SX.S_len]; omega) (shC (by rw [SX.S_len]; omega) (shC (by decide +kernel) shN))))⟩
      refine ⟨_, rfl, Wd, _, 0, sV (wT w ++ 46 :: itx pt), rfl, rfl, SqL.of hW, a0, _, rfl, Wd, _, 2, sV (endL st), rfl, rfl, SqL.of hW, a2, _, rfl, Wd, _, 1, sV m.l, rfl, rfl, SqL.of hW, a1, (by show 3 ≤ sizeLine; decide), fun l4 hl4 => ?_⟩
      generalize hG : upd _ l4 _ = G
      obtain ⟨s, h_l4⟩ := upd_gen hG hl4
      replace hW := s _ _ hW
      have n_l4 := wl.ne hl4
      replace wl := wl.same s
      replace SB := SB.trans (.of s)
      replace bag := fun p hp => (bag p hp).but (.of s)
      clear hG hl4
      replace bag := bagC bag (x := l4) ⟨n_l4, [SX.S (wT w ++ 46 :: itx pt), SX.S (endL st), SX.S m.l], h_l4, by show 3 ≤ 5; decide, (shC (by rw [SX.S_len]; omega) (shC (by rw [SX.S_len]; omega) (shC (by rw [SX.S_len]; omega) shN)))⟩
      refine ⟨_, rfl, Wd, _, 0, sV (wT w ++ 46 :: itx pt), rfl, rfl, SqL.of hW, a0, ⟨_, rfl⟩, _, rfl, rfl, (by rw [SX.S_len]; omega), (by show 1 ≤ sizeLine; decide), fun u5 hu5 => ?_⟩
      generalize hG : upd _ u5 _ = G
      obtain ⟨s, h_u5⟩ := upd_gen hG hu5
      replace hW := s _ _ hW
      have n_u5 := wl.ne hu5
      replace wl := wl.same s
      replace SB := SB.trans (.of s)
      replace bag := fun p hp => (bag p hp).but (.of s)
      clear hG hu5
      refine ⟨_, rfl, _, rfl, Wd, _, rfl, SqL.of hW, fun v5 hv5 => ?_⟩
      have k_u5 := h_u5
      generalize hG : upd _ v5 _ = G
      obtain ⟨s, h_v5⟩ := upd_gen hG hv5
      replace hW := s _ _ hW
      have n_v5 := wl.ne hv5
      replace wl := wl.same s
      replace SB := SB.trans (.of s)
      replace bag := fun p hp => (bag p hp).but (.of s)
      clear hG hv5
      replace k_u5 := s _ _ k_u5
      refine ⟨_, _, _, _, rfl, rfl, k_u5, h_v5, (by show 3 ≤ sizeLine; decide), fun l5 hl5 => ?_⟩
      generalize hG : upd _ l5 _ = G
      obtain ⟨s, h_l5⟩ := upd_gen hG hl5
      replace hW := s _ _ hW
      have n_l5 := wl.ne hl5
      replace wl := wl.same s
      replace SB := SB.trans (.of s)
      replace bag := fun p hp => (bag p hp).but (.of s)
      clear hG hl5
      replace bag := bagC bag (x := l5) ⟨n_l5, [(Txt.upper (SX.S (wT w ++ 46 :: itx pt))), SX.S m.l, SX.S (endL st)], h_l5, by show 3 ≤ 5; decide, (shC (Nat.le_trans (PyProof.Rows.len_upper _) (by rw [SX.S_len]; omega)) (shC (by rw [SX.S_len]; omega) (shC (by rw [SX.S_len]; omega) shN)))⟩
      refine ⟨(by show 5 ≤ sizeLine; decide), fun L hL => ?_⟩
      generalize hG : upd _ L _ = G
      obtain ⟨s, h_L⟩ := upd_gen hG hL
      replace hW := s _ _ hW
      have n_L := wl.ne hL
      replace wl := wl.same s
      replace SB := SB.trans (.of s)
      replace bag := fun p hp => (bag p hp).but (.of s)
      clear hG hL
      exact ⟨L, [l1, l2, l3, l4, l5], rfl, h_L, n_L, rfl, SB, wl, hW, bag⟩
    clear hW SB bag wl
    obtain ⟨L, ps, rfl, hL, nL, len, SB, wl, hW, bag⟩ := hM
    refine ⟨fun σ G => ∃ (L : Addr) (ps : List Addr), σ = [some (sV l), some (.ref a), some (.int r), some (.int i), some (sV [x]), some (.ref Wd), some (.ref L)] ∧ G L = some (.lst (ps.map V.ref)) ∧ L ≠ a ∧ ps.length = 8 ∧ SameBut a H G ∧ WellAt G a (c + 3) ∧ G Wd = some (.lst [sV (wT w ++ 46 :: itx pt), sV m.l, sV (endL st)]) ∧ ∀ p ∈ ps, LB a G p, ?_, fun σ G hM => ?_⟩
    ·
      refine ⟨_, rfl, ?_⟩
      refine ⟨_, rfl, Wd, _, 0, sV (wT w ++ 46 :: itx pt), rfl, rfl, SqL.of hW, a0, _, rfl, Wd, _, 0, sV (wT w ++ 46 :: itx pt), rfl, rfl, SqL.of hW, a0, rfl, _, _, rfl, rfl, fun k hk => ?_, (fun e => absurd ((index_at (q := itx pt) f46).symm.trans e) (fun z => nomatch z))⟩
      have hk : k = (wT w).length := Option.some.inj (hk.symm.trans (index_at (q := itx pt) f46))
      subst hk
      refine ⟨_, rfl, _, rfl, (by rw [SX.S_len]; exact sl_le (by omega)), ?_⟩
      rw [SX.slice_from (by omega)]
      have l65 : (Str.ofString "65" ++ SX.S ((wT w ++ 46 :: itx pt).drop ((wT w).length : Int).toNat)).length ≤ 100 := by
        have : (Str.ofString "65").length = 2 := by decide +kernel
        rw [Str.length_append, this, SX.S_len, List.length_drop]
        omega
      refine ⟨_, _, rfl, rfl, (by rw [← Str.length_append]; exact sl_le (by omega)), ?_⟩
      refine ⟨(by show 1 ≤ sizeLine; decide), fun u6 hu6 => ?_⟩
      generalize hG : upd _ u6 _ = G
      obtain ⟨s, h_u6⟩ := upd_gen hG hu6
      replace hW := s _ _ hW
      replace hL := s _ _ hL
      have n_u6 := wl.ne hu6
      replace wl := wl.same s
      replace SB := SB.trans (.of s)
      replace bag := fun p hp => (bag p hp).but (.of s)
      clear hG hu6
      refine ⟨_, rfl, _, rfl, Wd, _, rfl, SqL.of hW, fun v6 hv6 => ?_⟩
      have k_u6 := h_u6
      generalize hG : upd _ v6 _ = G
      obtain ⟨s, h_v6⟩ := upd_gen hG hv6
      replace hW := s _ _ hW
      replace hL := s _ _ hL
      have n_v6 := wl.ne hv6
      replace wl := wl.same s
      replace SB := SB.trans (.of s)
      replace bag := fun p hp => (bag p hp).but (.of s)
      clear hG hv6
      replace k_u6 := s _ _ k_u6
      refine ⟨_, _, _, _, rfl, rfl, k_u6, h_v6, (by show 3 ≤ sizeLine; decide), fun l6 hl6 => ?_⟩
      generalize hG : upd _ l6 _ = G
      obtain ⟨s, h_l6⟩ := upd_gen hG hl6
      replace hW := s _ _ hW
      replace hL := s _ _ hL
      have n_l6 := wl.ne hl6
      replace wl := wl.same s
      replace SB := SB.trans (.of s)
      replace bag := fun p hp => (bag p hp).but (.of s)
      clear hG hl6
      replace bag := bagC bag (x := l6) ⟨n_l6, [(Str.ofString "65" ++ SX.S ((wT w ++ 46 :: itx pt).drop ((wT w).length : Int).toNat)), SX.S m.l, SX.S (endL st)], h_l6, by show 3 ≤ 5; decide, (shC (by omega) (shC (by rw [SX.S_len]; omega) (shC (by rw [SX.S_len]; omega) shN)))⟩
      refine ⟨(by show 1 ≤ sizeLine; decide), fun u7 hu7 => ?_⟩
      generalize hG : upd _ u7 _ = G
      obtain ⟨s, h_u7⟩ := upd_gen hG hu7
      replace hW := s _ _ hW
      replace hL := s _ _ hL
      have n_u7 := wl.ne hu7
      replace wl := wl.same s
      replace SB := SB.trans (.of s)
      replace bag := fun p hp => (bag p hp).but (.of s)
      clear hG hu7
      refine ⟨_, rfl, _, rfl, Wd, _, rfl, SqL.of hW, fun v7 hv7 => ?_⟩
      have k_u7 := h_u7
      generalize hG : upd _ v7 _ = G
      obtain ⟨s, h_v7⟩ := upd_gen hG hv7
      replace hW := s _ _ hW
      replace hL := s _ _ hL
      have n_v7 := wl.ne hv7
      replace wl := wl.same s
      replace SB := SB.trans (.of s)
      replace bag := fun p hp => (bag p hp).but (.of s)
      clear hG hv7
      replace k_u7 := s _ _ k_u7
      refine ⟨_, _, _, _, rfl, rfl, k_u7, h_v7, (by show 3 ≤ sizeLine; decide), fun l7 hl7 => ?_⟩
      generalize hG : upd _ l7 _ = G
      obtain ⟨s, h_l7⟩ := upd_gen hG hl7
      replace hW := s _ _ hW
      replace hL := s _ _ hL
      have n_l7 := wl.ne hl7
      replace wl := wl.same s
      replace SB := SB.trans (.of s)
      replace bag := fun p hp => (bag p hp).but (.of s)
      clear hG hl7
      replace bag := bagC bag (x := l7) ⟨n_l7, [(Str.ofString "1.0"), SX.S m.l, SX.S (endL st)], h_l7, by show 3 ≤ 5; decide, (shC (by decide +kernel) (shC (by rw [SX.S_len]; omega) (shC (by rw [SX.S_len]; omega) shN)))⟩
      refine ⟨(by show 1 ≤ sizeLine; decide), fun u8 hu8 => ?_⟩
      generalize hG : upd _ u8 _ = G
      obtain ⟨s, h_u8⟩ := upd_gen hG hu8
      replace hW := s _ _ hW
      replace hL := s _ _ hL
      have n_u8 := wl.ne hu8
      replace wl := wl.same s
      replace SB := SB.trans (.of s)
      replace bag := fun p hp => (bag p hp).but (.of s)
      clear hG hu8
      refine ⟨_, rfl, _, rfl, Wd, _, rfl, SqL.of hW, fun v8 hv8 => ?_⟩
      have k_u8 := h_u8
      generalize hG : upd _ v8 _ = G
      obtain ⟨s, h_v8⟩ := upd_gen hG hv8
      replace hW := s _ _ hW
      replace hL := s _ _ hL
      have n_v8 := wl.ne hv8
      replace wl := wl.same s
      replace SB := SB.trans (.of s)
      replace bag := fun p hp => (bag p hp).but (.of s)
      clear hG hv8
      replace k_u8 := s _ _ k_u8
      refine ⟨_, _, _, _, rfl, rfl, k_u8, h_v8, (by show 3 ≤ sizeLine; decide), fun l8 hl8 => ?_⟩
      generalize hG : upd _ l8 _ = G
      obtain ⟨s, h_l8⟩ := upd_gen hG hl8
      replace hW := s _ _ hW
      replace hL := s _ _ hL
      have n_l8 := wl.ne hl8
      replace wl := wl.same s
      replace SB := SB.trans (.of s)
      replace bag := fun p hp => (bag p hp).but (.of s)
      clear hG hl8
      replace bag := bagC bag (x := l8) ⟨n_l8, [(Str.ofString "8.65"), SX.S m.l, SX.S (endL st)], h_l8, by show 3 ≤ 5; decide, (shC (by decide +kernel) (shC (by rw [SX.S_len]; omega) (shC (by rw [SX.S_len]; omega) shN)))⟩
      refine ⟨(by show 3 ≤ sizeLine; decide), fun M2 hM2 => ?_⟩
      generalize hG : upd _ M2 _ = G
      obtain ⟨s, h_M2⟩ := upd_gen hG hM2
      replace hW := s _ _ hW
      replace hL := s _ _ hL
      have n_M2 := wl.ne hM2
      replace wl := wl.same s
      replace SB := SB.trans (.of s)
      replace bag := fun p hp => (bag p hp).but (.of s)
      clear hG hM2
      refine ⟨_, _, _, _, rfl, rfl, hL, h_M2, (by rw [List.length_map, len]; show 8 ≤ sizeLine; decide), fun N2 hN2 => ?_⟩
      generalize hG : upd _ N2 _ = G
      obtain ⟨s, h_N2⟩ := upd_gen hG hN2
      replace hW := s _ _ hW
      replace hL := s _ _ hL
      have n_N2 := wl.ne hN2
      replace wl := wl.same s
      replace SB := SB.trans (.of s)
      replace bag := fun p hp => (bag p hp).but (.of s)
      clear hG hN2
      refine ⟨N2, ps ++ [l6, l7, l8], rfl, ?_, n_N2, ?_, SB, wl, hW, ?_⟩
      · rw [h_N2, List.map_append]
        rfl
      · rw [List.length_append, len]
        rfl
      · simpa only [List.append_assoc, List.cons_append, List.nil_append] using bag
    clear hL nL len SB wl hW bag
    obtain ⟨L, ps, rfl, hL, nL, len, SB, wl, hW, bag⟩ := hM
    refine ⟨fun σ G => ∃ (L : Addr) (ps : List Addr), σ = [some (sV l), some (.ref a), some (.int r), some (.int i), some (sV [x]), some (.ref Wd), some (.ref L)] ∧ G L = some (.lst (ps.map V.ref)) ∧ L ≠ a ∧ ps.length = 12 ∧ SameBut a H G ∧ WellAt G a (c + 3) ∧ G Wd = some (.lst [sV (wT w ++ 46 :: itx pt), sV m.l, sV (endL st)]) ∧ ∀ p ∈ ps, LB a G p, ?_, fun σ G hM => ?_⟩
    ·
      refine ⟨_, rfl, ?_⟩
      have l20 : (SX.S (wT w ++ 46 :: itx pt) ++ Str.ofString ".0").length ≤ 100 := by
        have : (Str.ofString ".0").length = 2 := by decide +kernel
        rw [Str.length_append, this, SX.S_len]
        omega
      refine ⟨_, rfl, Wd, _, 0, sV (wT w ++ 46 :: itx pt), rfl, rfl, SqL.of hW, a0, _, _, rfl, rfl, (by rw [← Str.length_append]; exact sl_le (by omega)), ?_⟩
      refine ⟨(by show 1 ≤ sizeLine; decide), fun u9 hu9 => ?_⟩
      generalize hG : upd _ u9 _ = G
      obtain ⟨s, h_u9⟩ := upd_gen hG hu9
      replace hW := s _ _ hW
      replace hL := s _ _ hL
      have n_u9 := wl.ne hu9
      replace wl := wl.same s
      replace SB := SB.trans (.of s)
      replace bag := fun p hp => (bag p hp).but (.of s)
      clear hG hu9
      refine ⟨_, rfl, _, rfl, Wd, _, rfl, SqL.of hW, fun v9 hv9 => ?_⟩
      have k_u9 := h_u9
      generalize hG : upd _ v9 _ = G
      obtain ⟨s, h_v9⟩ := upd_gen hG hv9
      replace hW := s _ _ hW
      replace hL := s _ _ hL
      have n_v9 := wl.ne hv9
      replace wl := wl.same s
      replace SB := SB.trans (.of s)
      replace bag := fun p hp => (bag p hp).but (.of s)
      clear hG hv9
      replace k_u9 := s _ _ k_u9
      refine ⟨_, _, _, _, rfl, rfl, k_u9, h_v9, (by show 3 ≤ sizeLine; decide), fun l9 hl9 => ?_⟩
      generalize hG : upd _ l9 _ = G
      obtain ⟨s, h_l9⟩ := upd_gen hG hl9
      replace hW := s _ _ hW
      replace hL := s _ _ hL
      have n_l9 := wl.ne hl9
      replace wl := wl.same s
      replace SB := SB.trans (.of s)
      replace bag := fun p hp => (bag p hp).but (.of s)
      clear hG hl9
      replace bag := bagC bag (x := l9) ⟨n_l9, [(SX.S (wT w ++ 46 :: itx pt) ++ Str.ofString ".0"), SX.S m.l, SX.S (endL st)], h_l9, by show 3 ≤ 5; decide, (shC (by omega) (shC (by rw [SX.S_len]; omega) (shC (by rw [SX.S_len]; omega) shN)))⟩
      refine ⟨(by show 1 ≤ sizeLine; decide), fun ua hua => ?_⟩
      generalize hG : upd _ ua _ = G
      obtain ⟨s, h_ua⟩ := upd_gen hG hua
      replace hW := s _ _ hW
      replace hL := s _ _ hL
      have n_ua := wl.ne hua
      replace wl := wl.same s
      replace SB := SB.trans (.of s)
      replace bag := fun p hp => (bag p hp).but (.of s)
      clear hG hua
      refine ⟨_, rfl, _, rfl, Wd, _, rfl, SqL.of hW, fun va hva => ?_⟩
      have k_ua := h_ua
      generalize hG : upd _ va _ = G
      obtain ⟨s, h_va⟩ := upd_gen hG hva
      replace hW := s _ _ hW
      replace hL := s _ _ hL
      have n_va := wl.ne hva
      replace wl := wl.same s
      replace SB := SB.trans (.of s)
      replace bag := fun p hp => (bag p hp).but (.of s)
      clear hG hva
      replace k_ua := s _ _ k_ua
      refine ⟨_, _, _, _, rfl, rfl, k_ua, h_va, (by show 3 ≤ sizeLine; decide), fun la hla => ?_⟩
      generalize hG : upd _ la _ = G
      obtain ⟨s, h_la⟩ := upd_gen hG hla
      replace hW := s _ _ hW
      replace hL := s _ _ hL
      have n_la := wl.ne hla
      replace wl := wl.same s
      replace SB := SB.trans (.of s)
      replace bag := fun p hp => (bag p hp).but (.of s)
      clear hG hla
      replace bag := bagC bag (x := la) ⟨n_la, [(Str.ofString "None.0"), SX.S m.l, SX.S (endL st)], h_la, by show 3 ≤ 5; decide, (shC (by decide +kernel) (shC (by rw [SX.S_len]; omega) (shC (by rw [SX.S_len]; omega) shN)))⟩
      refine ⟨(by show 1 ≤ sizeLine; decide), fun ub hub => ?_⟩
      generalize hG : upd _ ub _ = G
      obtain ⟨s, h_ub⟩ := upd_gen hG hub
      replace hW := s _ _ hW
      replace hL := s _ _ hL
      have n_ub := wl.ne hub
      replace wl := wl.same s
      replace SB := SB.trans (.of s)
      replace bag := fun p hp => (bag p hp).but (.of s)
      clear hG hub
      refine ⟨_, rfl, _, rfl, Wd, _, rfl, SqL.of hW, fun vb hvb => ?_⟩
      have k_ub := h_ub
      generalize hG : upd _ vb _ = G
      obtain ⟨s, h_vb⟩ := upd_gen hG hvb
      replace hW := s _ _ hW
      replace hL := s _ _ hL
      have n_vb := wl.ne hvb
      replace wl := wl.same s
      replace SB := SB.trans (.of s)
      replace bag := fun p hp => (bag p hp).but (.of s)
      clear hG hvb
      replace k_ub := s _ _ k_ub
      refine ⟨_, _, _, _, rfl, rfl, k_ub, h_vb, (by show 3 ≤ sizeLine; decide), fun lb hlb => ?_⟩
      generalize hG : upd _ lb _ = G
      obtain ⟨s, h_lb⟩ := upd_gen hG hlb
      replace hW := s _ _ hW
      replace hL := s _ _ hL
      have n_lb := wl.ne hlb
      replace wl := wl.same s
      replace SB := SB.trans (.of s)
      replace bag := fun p hp => (bag p hp).but (.of s)
      clear hG hlb
      replace bag := bagC bag (x := lb) ⟨n_lb, [(Str.ofString "8"), SX.S m.l, SX.S (endL st)], h_lb, by show 3 ≤ 5; decide, (shC (by decide +kernel) (shC (by rw [SX.S_len]; omega) (shC (by rw [SX.S_len]; omega) shN)))⟩
      refine ⟨(by show 1 ≤ sizeLine; decide), fun uc huc => ?_⟩
      generalize hG : upd _ uc _ = G
      obtain ⟨s, h_uc⟩ := upd_gen hG huc
      replace hW := s _ _ hW
      replace hL := s _ _ hL
      have n_uc := wl.ne huc
      replace wl := wl.same s
      replace SB := SB.trans (.of s)
      replace bag := fun p hp => (bag p hp).but (.of s)
      clear hG huc
      refine ⟨_, rfl, _, rfl, Wd, _, rfl, SqL.of hW, fun vc hvc => ?_⟩
      have k_uc := h_uc
      generalize hG : upd _ vc _ = G
      obtain ⟨s, h_vc⟩ := upd_gen hG hvc
      replace hW := s _ _ hW
      replace hL := s _ _ hL
      have n_vc := wl.ne hvc
      replace wl := wl.same s
      replace SB := SB.trans (.of s)
      replace bag := fun p hp => (bag p hp).but (.of s)
      clear hG hvc
      replace k_uc := s _ _ k_uc
      refine ⟨_, _, _, _, rfl, rfl, k_uc, h_vc, (by show 3 ≤ sizeLine; decide), fun lc hlc => ?_⟩
      generalize hG : upd _ lc _ = G
      obtain ⟨s, h_lc⟩ := upd_gen hG hlc
      replace hW := s _ _ hW
      replace hL := s _ _ hL
      have n_lc := wl.ne hlc
      replace wl := wl.same s
      replace SB := SB.trans (.of s)
      replace bag := fun p hp => (bag p hp).but (.of s)
      clear hG hlc
      replace bag := bagC bag (x := lc) ⟨n_lc, [(Str.ofString "8.+1"), SX.S m.l, SX.S (endL st)], h_lc, by show 3 ≤ 5; decide, (shC (by decide +kernel) (shC (by rw [SX.S_len]; omega) (shC (by rw [SX.S_len]; omega) shN)))⟩
      refine ⟨(by show 4 ≤ sizeLine; decide), fun M3 hM3 => ?_⟩
      generalize hG : upd _ M3 _ = G
      obtain ⟨s, h_M3⟩ := upd_gen hG hM3
      replace hW := s _ _ hW
      replace hL := s _ _ hL
      have n_M3 := wl.ne hM3
      replace wl := wl.same s
      replace SB := SB.trans (.of s)
      replace bag := fun p hp => (bag p hp).but (.of s)
      clear hG hM3
      refine ⟨_, _, _, _, rfl, rfl, hL, h_M3, (by rw [List.length_map, len]; show 12 ≤ sizeLine; decide), fun N3 hN3 => ?_⟩
      generalize hG : upd _ N3 _ = G
      obtain ⟨s, h_N3⟩ := upd_gen hG hN3
      replace hW := s _ _ hW
      replace hL := s _ _ hL
      have n_N3 := wl.ne hN3
      replace wl := wl.same s
      replace SB := SB.trans (.of s)
      replace bag := fun p hp => (bag p hp).but (.of s)
      clear hG hN3
      refine ⟨N3, ps ++ [l9, la, lb, lc], rfl, ?_, n_N3, ?_, SB, wl, hW, ?_⟩
      · rw [h_N3, List.map_append]
        rfl
      · rw [List.length_append, len]
        rfl
      · simpa only [List.append_assoc, List.cons_append, List.nil_append] using bag
    clear hL nL len SB wl hW bag
    obtain ⟨L, ps, rfl, hL, nL, len, SB, wl, hW, bag⟩ := hM
    refine ⟨⟨_, rfl⟩, _, rfl, _, rfl, a, c + 3, 12, rfl, wl, by omega, by decide, by decide +kernel, fun r5 H6 r50 r51 d5 e5 w5 => ?_⟩
    obtain ⟨p, hp, hLB⟩ := bag_pick bag r50 (by rw [len]; exact r51)
    obtain ⟨ys, hys, ly, ls5⟩ := (hLB.but d5).at_
    refine ⟨L, _, r5, _, rfl, rfl, SqL.of (d5 _ _ nL hL), hp, _, p, ys, rfl, rfl, .inl (SqL.of hys), ?_, ?_⟩
    · have := sum_short ys ls5
      have e1 : (Str.ofString " ").length = 1 := rfl
      rw [e1]
      omega
    · refine q _ _ ?_ (SB.trans d5) (w5.mono (by omega))
      rw [TL.join_eq]
      have := join_short ys ls5 (Str.ofString " ")
      have e1 : (Str.ofString " ").length = 1 := rfl
      rw [e1] at this
      omega
end
end E1

namespace E1
open PySem PySem.Spec PyProof.Rows L2

structure Errs (K : PySem.W.Frag) (mg : Str → Option Value) (CE CT CB CW CU : Addr) : Prop where
  gE : mg "EchoError" = some (.ref CE)
  gT : mg "NoText" = some (.ref CT)
  gB : mg "BadForm" = some (.ref CB)
  gW : mg "BadNet" = some (.ref CW)
  gU : mg "Unfit" = some (.ref CU)
  XT : ExcC K CT
  noL : PySem.W.findIn K (.ref CT) "line" = some none
  exT : PySem.W.exmOne K (.ref CT) (.ref CE) = some true
  kTT : PySem.W.kitOne K (.ref CT) (.ref CT) = some true
  kTB : PySem.W.kitOne K (.ref CT) (.ref CB) = some false
  kTW : PySem.W.kitOne K (.ref CT) (.ref CW) = some false
  kTU : PySem.W.kitOne K (.ref CT) (.ref CU) = some false
def spTold (K : PySem.W.Frag) (C : Addr) : Sp := fun vs H Q _ => ∃ x : V, vs = [x] ∧ ((∃ l, x = sV l ∧ l.length ≤ 90000 ∧ (rdF l = none → ∀ H', Same H H' → Q (.str "refused") H') ∧ ∀ w pt m st, rdF l = some (w, pt, m, st) → ∀ p H', Same H H' → H p = none → FormAt C H' p w pt m st → Q (.ref p) H') ∨ (NoTxt K H x ∧ ∀ H', Same H H' → Q (.str "refused") H'))
def spRightF : Sp := fun vs H Q _ => ∃ z : Str, vs = [.str z] ∧ z.length ≤ 90000 ∧ ∀ H', Same H H' → Q (.bl true) H'
theorem init_good {K : PySem.W.Frag} {dM C CB p dx : Addr} {H : Hp} {Q : VK} {E : XK} {w : Option Int} {pt : Int} {m : Mn} {st : Bool} (hp : H p = some (.ins C dx [])) (hw : WOk w) (h0 : -64 ≤ pt) (h1 : pt ≤ 64) (q : ∀ H', FormAt C H' p w pt m st → (∀ b o, b ≠ p → H b = some o → H' b = some o) → Q .non H') :
    spInitB K dM C CB [.ref p, wV w, .int pt, .str m.str, .str (endS st)] H Q E := by
  refine ⟨p, dx, _, _, _, _, true, true, true, true, rfl, hp, .inl ⟨w, rfl, hw, rfl⟩, .inl ⟨pt, rfl, (decide_eq_true ⟨h0, h1⟩).symm⟩, .inl ⟨m, rfl, rfl⟩, .inl ⟨_, rfl, ?_⟩, (fun z => nomatch z), fun w' pt' m' st' e1 e2 e3 e4 H5 hf kp => ?_⟩
  · cases st <;> decide +kernel
  · have a1 := wV_inj e1
    have a2 := V.int.inj e2
    have a3 := mstr_inj (V.str.inj e3)
    have a4 := endS_inj (V.str.inj e4)
    subst a1 a2 a3 a4
    exact q H5 hf kp
theorem al_same (w : Option Int) (pt : Int) (m : Mn) (st : Bool) : alikeB w w pt pt m m st st = true := by
  unfold alikeB
  rw [decide_eq_true rfl, decide_eq_true rfl, decide_eq_true rfl, decide_eq_true rfl]
  rfl
section
variable {P : Program} {w : World} {K : PySem.W.Frag} {mg : Str → Option Value} {base : Heap}
theorem sc__law_told : FnScope ["_law_line_text", "_law_found", "e", "_law_marks"] ["_law_line_text"] (defScope s__law_told) := ⟨rfl, rfl, rfl, by decide +kernel, rfl, by decide +kernel, by decide +kernel⟩
theorem ok__law_told {f : Addr} {fd : FuncData} {CE CT CB CW CU C : Addr} (XX : Errs K mg CE CT CB CW CU) (ECT : PySem.ErrX.ErrC K mg "NoText" CT) (F : Fun K "_law_told" "_law_told" s__law_told f fd) (z : Zs mg) (c_read_form : CalX P w K mg base 6 "read_form" ["text"] [] (spReadFm K C CT)) : FnOk P w K mg base CX0 7 f fd ["_law_line_text"] (spTold K C) := by
  refine F.ok sc__law_told (fun vs H Q E h => ?_) (fun cdv A outer s H vs Q E hr h => ?_)
  · obtain ⟨x, rfl, _⟩ := h
    rfl
  · obtain ⟨x, rfl, h⟩ := h
    refine ⟨_, (pss_cons (ps_set (i := 1) sc__law_told.nd rfl (.inl rfl) pe_str)
      (pss_cons (ps_try_as (i := 2) (c := .ref CE) (tb := fun W => tAsg (tCallS (spReadFm K C CT) (WE W) (tCons (tVar 0) tNil)) (gName 1)) (ts := fun a cls d => tSeq (tAsg (tLst (tCons (tCB (rIsX K a cls d) (tCons (tVar 2) (tCons (tC (.ref CT)) tNil))) (tCons (tCB (rIsX K a cls d) (tCons (tVar 2) (tCons (tC (.ref CB)) tNil))) (tCons (tCB (rIsX K a cls d) (tCons (tVar 2) (tCons (tC (.ref CW)) tNil))) (tCons (tCB (rIsX K a cls d) (tCons (tVar 2) (tCons (tC (.ref CU)) tNil))) tNil))))) (gName 3)) (tIfS (tAnd (tTest (tOp (rEqD K) (tVar 3) (tLst (tCons (tC (.bl true)) (tCons (tC (.bl false)) (tCons (tC (.bl false)) (tCons (tC (.bl false)) tNil))))))) (tTest (tOp rEq (tXf a cls d CT "line" (tVar 2)) (tC (.int 0))))) (tAsg (tC (.str "refused")) (gName 1)) tNext)) rfl rfl sc__law_told.nd rfl rfl ⟨rfl, by decide, .inl XX.gE⟩ takes0 (fun W pn xe tk _ => (pss_one (ps_set (i := 1) sc__law_told.nd rfl (.inl rfl) (pe_calxS c_read_form hr tk (pa_cons (pv 0) pa_nil)))))
      (fun a oe cls d pn hz hf => (pss_cons (ps_set (i := 3) sc__law_told.nd rfl (.inl rfl) (pe_lst (pa_cons (pe_callB (call_isX hz hf) (by rfl) z.isinstance (by decide +kernel) (pa_cons (pv 2) (pa_cons (pe_glob (v := .ref CT) (by rfl) XX.gT rfl) pa_nil))) (pa_cons (pe_callB (call_isX hz hf) (by rfl) z.isinstance (by decide +kernel) (pa_cons (pv 2) (pa_cons (pe_glob (v := .ref CB) (by rfl) XX.gB rfl) pa_nil))) (pa_cons (pe_callB (call_isX hz hf) (by rfl) z.isinstance (by decide +kernel) (pa_cons (pv 2) (pa_cons (pe_glob (v := .ref CW) (by rfl) XX.gW rfl) pa_nil))) (pa_cons (pe_callB (call_isX hz hf) (by rfl) z.isinstance (by decide +kernel) (pa_cons (pv 2) (pa_cons (pe_glob (v := .ref CU) (by rfl) XX.gU rfl) pa_nil))) pa_nil))))))
      (pss_one (ps_if (PW.pt (pw_and (pt_cmpR (op_eqD (by exact hr.units)) (pv 3) (pe_lst (pa_cons pe_bl (pa_cons pe_bl (pa_cons pe_bl (pa_cons pe_bl pa_nil))))) (nomark _)) (pw_and1 (pt_cmpR op_eq (by exact (pe_xf (E1.ErrC.xf ECT) XX.noL hz hf (pv 2))) pe_int (nomark _))))) (pss_one (ps_set (i := 1) sc__law_told.nd rfl (.inl rfl) pe_str)) pss_nil)))))
      (pss_one (ps_ret (pv 1))))), ?_⟩
    rcases h with ⟨l, rfl, hl, q1, q2⟩ | ⟨hx, q1⟩
    · refine ⟨_, rfl, _, rfl, .inl ⟨l, rfl, hl, fun e d H1 s1 hd => ?_, fun w pt m st e p H' s' hp hf => ⟨_, rfl, q2 w pt m st e p H' s' hp hf⟩⟩⟩
      replace q1 := q1 e
      refine ⟨true, XX.exT, fun _ a ha => ?_, fun z => nomatch z⟩
      refine ⟨_, rfl, CT, _, _, true, rfl, XX.XT, rfl, (fun u h => h), (fun dd e => by cases e; exact ⟨_, hd⟩), XX.kTT, _, rfl, CT, _, _, false, rfl, XX.XT, rfl, (fun u h => h), (fun dd e => by cases e; exact ⟨_, hd⟩), XX.kTB, _, rfl, CT, _, _, false, rfl, XX.XT, rfl, (fun u h => h), (fun dd e => by cases e; exact ⟨_, hd⟩), XX.kTW, _, rfl, CT, _, _, false, rfl, XX.XT, rfl, (fun u h => h), (fun dd e => by cases e; exact ⟨_, hd⟩), XX.kTU, (by show 4 ≤ sizeLine; decide), fun l2 hl2 => ?_⟩
      have s2 := same_new (o := .lst [.bl true, .bl false, .bl false, .bl false]) hl2
      refine ⟨_, rfl, (by show 4 ≤ sizeLine; decide), fun l3 hl3 => ?_⟩
      have s3 := same_new (o := .lst [.bl true, .bl false, .bl false, .bl false]) hl3
      refine ⟨.list [.bool true, .bool false, .bool false, .bool false], .list [.bool true, .bool false, .bool false, .bool false], .lst (SqL.of (s3 _ _ upd_same)) (.cons (.bl _) (.cons (.bl _) (.cons (.bl _) (.cons (.bl _) .nil)))), .lst (SqL.of upd_same) (.cons (.bl _) (.cons (.bl _) (.cons (.bl _) (.cons (.bl _) .nil)))), (by decide +kernel), (by decide +kernel), _, rfl, ?_⟩
      refine iteC (c := PyData.eqv (.list [.bool true, .bool false, .bool false, .bool false]) (.list [.bool true, .bool false, .bool false, .bool false])) (d := true) (by decide +kernel) (iteT ?_)
      refine ⟨_, rfl, rfl, rfl, d, _, _, rfl, s3 _ _ (s2 _ _ hd), rfl, rfl, _, rfl, iteT ?_⟩
      exact ⟨_, rfl, q1 _ (s1.trans (s2.trans s3))⟩
    · refine ⟨_, rfl, _, rfl, .inr ⟨hx, fun d H1 s1 hd => ?_⟩⟩
      refine ⟨true, XX.exT, fun _ a ha => ?_, fun z => nomatch z⟩
      refine ⟨_, rfl, CT, _, _, true, rfl, XX.XT, rfl, (fun u h => h), (fun dd e => by cases e; exact ⟨_, hd⟩), XX.kTT, _, rfl, CT, _, _, false, rfl, XX.XT, rfl, (fun u h => h), (fun dd e => by cases e; exact ⟨_, hd⟩), XX.kTB, _, rfl, CT, _, _, false, rfl, XX.XT, rfl, (fun u h => h), (fun dd e => by cases e; exact ⟨_, hd⟩), XX.kTW, _, rfl, CT, _, _, false, rfl, XX.XT, rfl, (fun u h => h), (fun dd e => by cases e; exact ⟨_, hd⟩), XX.kTU, (by show 4 ≤ sizeLine; decide), fun l2 hl2 => ?_⟩
      have s2 := same_new (o := .lst [.bl true, .bl false, .bl false, .bl false]) hl2
      refine ⟨_, rfl, (by show 4 ≤ sizeLine; decide), fun l3 hl3 => ?_⟩
      have s3 := same_new (o := .lst [.bl true, .bl false, .bl false, .bl false]) hl3
      refine ⟨.list [.bool true, .bool false, .bool false, .bool false], .list [.bool true, .bool false, .bool false, .bool false], .lst (SqL.of (s3 _ _ upd_same)) (.cons (.bl _) (.cons (.bl _) (.cons (.bl _) (.cons (.bl _) .nil)))), .lst (SqL.of upd_same) (.cons (.bl _) (.cons (.bl _) (.cons (.bl _) (.cons (.bl _) .nil)))), (by decide +kernel), (by decide +kernel), _, rfl, ?_⟩
      refine iteC (c := PyData.eqv (.list [.bool true, .bool false, .bool false, .bool false]) (.list [.bool true, .bool false, .bool false, .bool false])) (d := true) (by decide +kernel) (iteT ?_)
      refine ⟨_, rfl, rfl, rfl, d, _, _, rfl, s3 _ _ (s2 _ _ hd), rfl, rfl, _, rfl, iteT ?_⟩
      exact ⟨_, rfl, q1 _ (s1.trans (s2.trans s3))⟩
theorem sc__law_right : FnScope ["_law_line_text", "_law_parts_here", "_law_found"] ["_law_line_text"] (defScope s__law_right) := ⟨rfl, rfl, rfl, by decide +kernel, rfl, by decide +kernel, by decide +kernel⟩
theorem ok__law_right {f : Addr} {fd : FuncData} {dM CB : Addr} {C : Addr} (T : FTxt K mg C) (X : FX K mg C) {fS fE : Addr} {fdS fdE : FuncData} (okS : FnOk P w K mg base CX0 1 fS fdS ["self"] (spStrF C)) (bS : Binds K fdS ["self"] []) (MS : OwnM K C "__str__" fS) (okE : FnOk P w K mg base CX0 1 fE fdE ["self", "other"] (spEqF K C)) (bE : Binds K fdE ["self", "other"] []) (ME : OwnM K C "__eq__" fE) (F : Fun K "_law_right" "_law_right" s__law_right f fd) (z : Zs mg) (c_Form : CalCX P w K mg base 3 "Form" C ["self", "width", "point", "manner", "ends"] [] (spInitB K dM C CB)) (c__law_read : Cal P w K mg base 2 "_law_read" ["_law_line_text"] spLRead) (c__law_told : Cal P w K mg base 7 "_law_told" ["_law_line_text"] (spTold K C)) : FnOk P w K mg base CX0 8 f fd ["_law_line_text"] spRightF := by
  refine F.ok sc__law_right (fun vs H Q E h => ?_) (fun cdv A outer s H vs Q E hr h => ?_)
  · obtain ⟨z, rfl, _⟩ := h
    rfl
  · obtain ⟨z0, rfl, hz, q⟩ := h
    refine ⟨_, (pss_cons (ps_set (i := 1) sc__law_right.nd rfl (.inl rfl) (pe_cal c__law_read hr (pa_cons (pv 0) pa_nil)))
      (pss_cons (ps_set (i := 2) sc__law_right.nd rfl (.inl rfl) (pe_cal c__law_told hr (pa_cons (pv 0) pa_nil)))
      (pss_cons (ps_if (pt_cmpR op_isN (pv 1) pe_non (nomark _)) (pss_one (ps_ret (pe_and (pe_callB call_isi (by rfl) z.isinstance (by decide +kernel) (pa_cons (pv 2) (pa_cons (pe_bltn (v := .ty "str") (by rfl) z.str (by decide +kernel) rfl) pa_nil))) (pe_one (pe_cmpR op_eq (pv 2) pe_str (nomark _)))))) pss_nil)
      (pss_one (ps_ret (pe_and (pe_callB call_isi (by rfl) z.isinstance (by decide +kernel) (pa_cons (pv 2) (pa_cons (pe_glob (v := .ref C) (by rfl) X.gC rfl) pa_nil))) (pe_and (pe_cmpR (op_eqO okE bE ME hr) (pv 2) (pe_calcx c_Form hr (pa_cons (pe_ix ix_tup (pv 1) pe_int (fun _ _ => rfl)) (pa_cons (pe_ix ix_tup (pv 1) pe_int (fun _ _ => rfl)) (pa_cons (pe_ix ix_tup (pv 1) pe_int (fun _ _ => rfl)) (pa_cons (pe_ix ix_tup (pv 1) pe_int (fun _ _ => rfl)) pa_nil))))) (nomark _)) (pe_one (pe_cmpR op_eq (pe_callTy (call_strO okS bS MS hr) (by rfl) z.str (by decide +kernel) (pa_cons (pv 2) pa_nil)) (pv 0) (nomark _)))))))))), ?_⟩
    obtain ⟨l, rfl⟩ : ∃ l : List Nat, z0 = SX.S l := ⟨z0.cps.toList, (SX.S_tl z0).symm⟩
    rw [SX.S_len] at hz
    refine ⟨_, rfl, l, rfl, hz, fun e H1 s1 => ?_, fun w pt m st e tp H1 s1 htf htp => ?_⟩
    · refine ⟨_, rfl, _, rfl, .inl ⟨l, rfl, hz, fun _ H2 s2 => ?_, fun w pt m st e2 => by rw [e] at e2; cases e2⟩⟩
      refine ⟨_, rfl, rfl, _, rfl, iteT ?_⟩
      exact ⟨_, rfl, _, .ty "str", _, _, true, rfl, .ty _, .base (.str _), kit_ty (by decide +kernel), _, rfl, iteT ⟨_, rfl, rfl, by rw [decide_eq_true rfl]; exact q _ (s1.trans s2)⟩⟩
    · refine ⟨_, rfl, _, rfl, .inl ⟨l, rfl, hz, (fun e2 => by rw [e] at e2; cases e2), fun w2 pt2 m2 st2 e2 p H2 s2 hp hf => ?_⟩⟩
      rw [e] at e2
      cases e2
      obtain ⟨el, hwo, h0, h1⟩ := rdF_back e
      replace htp := s2 _ _ htp
      refine ⟨_, rfl, rfl, _, rfl, iteF ?_⟩
      obtain ⟨dx, ho⟩ := hf.ob
      refine ⟨_, rfl, _, .ref C, .ref C, .ref C, true, rfl, .own C, .base (.ins ho T.cl X.ha X.hn X.ht X.hm), X.kC, _, rfl, iteT ?_⟩
      refine ⟨_, rfl, _, rfl, tp, _, 0, wV w, rfl, rfl, SqT.of htp, a0, _, rfl, tp, _, 1, .int pt, rfl, rfl, SqT.of htp, a1, _, rfl, tp, _, 2, .str m.str, rfl, rfl, SqT.of htp, a2, _, rfl, tp, _, 3, .str (endS st), rfl, rfl, SqT.of htp, atI_nat (j := 3) rfl, fun x y hx hy nx => init_good upd_same hwo h0 h1 fun H3 f3 kp => ⟨rfl, ?_⟩⟩
      have S3 := made_same hx hy kp
      have hf3 := hf.same S3
      obtain ⟨dx3, ho3⟩ := hf3.ob
      obtain ⟨dx4, ho4⟩ := f3.ob
      refine ⟨p, dx3, _, rfl, ho3, .inl ⟨x, dx4, _, rfl, ho4⟩, p, w, pt, m, st, _, rfl, hf3, .inl ⟨x, w, pt, m, st, rfl, f3, _, rfl, _, rfl, ?_⟩⟩
      rw [al_same]
      refine iteT ⟨_, rfl, p, dx3, _, rfl, ho3, p, w, pt, m, st, rfl, hf3, _, rfl, _, rfl, rfl, ?_⟩
      rw [strF_S, ← el, decide_eq_true rfl]
      exact q _ ((s1.trans s2).trans S3)
end
end E1

namespace E1
open PySem PySem.Spec PyProof.Rows L2

def spLaw (K : PySem.W.Frag) : Sp := fun vs H Q _ => ∃ (a : Addr) (ns : List Int), vs = [.ref a] ∧ SqL K H a (ns.map V.int) ∧ ns.length ≤ 63 ∧ ∀ H', Q (.bl true) H'
theorem FormAt.but {C : Addr} {H H' : Hp} {a p : Addr} {w : Option Int} {pt : Int} {m : Mn} {st : Bool} (f : FormAt C H p w pt m st) (s : SameBut a H H') (n : p ≠ a) : FormAt C H' p w pt m st := by
  obtain ⟨dx, h⟩ := f.ob
  exact ⟨⟨dx, s _ _ n h⟩, f.wo, f.p0, f.p1⟩
theorem rdF_nil : rdF [] = none := rfl
section
variable {P : Program} {w : World} {K : PySem.W.Frag} {mg : Str → Option Value} {base : Heap}
theorem sc_law : FnScope ["_law_script", "_law_well_here", "_law_parts_here", "_law_pattern", "_law_line_text", "_law_k", "_law_bad"] ["_law_script"] (defScope s_law) := ⟨rfl, rfl, rfl, by decide +kernel, rfl, by decide +kernel, by decide +kernel⟩
theorem ok_law {f : Addr} {fd : FuncData} {dM CB CT : Addr} {C : Addr} (T : FTxt K mg C) (X : FX K mg C) {fS fE : Addr} {fdS fdE : FuncData} (okS : FnOk P w K mg base CX0 1 fS fdS ["self"] (spStrF C)) (bS : Binds K fdS ["self"] []) (MS : OwnM K C "__str__" fS) (okE : FnOk P w K mg base CX0 1 fE fdE ["self", "other"] (spEqF K C)) (bE : Binds K fdE ["self", "other"] []) (ME : OwnM K C "__eq__" fE) (F : Fun K "law" "law" s_law f fd) (z : Zs mg) (c_Form : CalCX P w K mg base 3 "Form" C ["self", "width", "point", "manner", "ends"] [] (spInitB K dM C CB)) (c__law_cell_at : Cal P w K mg base 1 "_law_cell_at" ["_law_script", "_law_k"] (spCell K)) (c__law_well : Cal P w K mg base 1 "_law_well" ["_law_cell"] spWell) (c__law_draw : Cal P w K mg base 1 "_law_draw" ["_law_well_here", "_law_many"] spDraw) (c__law_parts : Cal P w K mg base 2 "_law_parts" ["_law_well_here"] spParts) (c__law_text : Cal P w K mg base 1 "_law_text" ["_law_parts_here"] spText) (c__law_spoilt : Cal P w K mg base 2 "_law_spoilt" ["_law_line_text", "_law_well_here"] spSpoilF) (c__law_told : Cal P w K mg base 7 "_law_told" ["_law_line_text"] (spTold K C)) (c__law_right : Cal P w K mg base 8 "_law_right" ["_law_line_text"] spRightF) (c_show_form : Cal P w K mg base 4 "show_form" ["form"] (spShowFm C)) (c_show_form_0_form : CalK P w K mg base 4 "show_form" ["form"] 0 ["form"] (fun vs zs => vs ++ zs) (spShowFm C)) (c_read_form : CalX P w K mg base 6 "read_form" ["text"] [] (spReadFm K C CT)) (c_read_form_k : CalXK P w K mg base 6 "read_form" ["text"] 0 ["text"] (fun vs zs => vs ++ zs) (spReadFm K C CT)) : FnOk P w K mg base CX0 9 f fd ["_law_script"] (spLaw K) := by
  refine F.ok sc_law (fun vs H Q E h => ?_) (fun cdv A outer s H vs Q E hr h => ?_)
  · obtain ⟨a, ns, rfl, _⟩ := h
    rfl
  · obtain ⟨as, ns, rfl, hS, hlen, q⟩ := h
    refine ⟨_, (pss_cons (ps_set (i := 1) sc_law.nd rfl (.inl rfl) (pe_cal c__law_well hr (pa_cons (pe_cal c__law_cell_at hr (pa_cons (pv 0) (pa_cons pe_int pa_nil))) pa_nil)))
      (pss_cons (ps_set (i := 2) sc_law.nd rfl (.inl rfl) (pe_cal c__law_parts hr (pa_cons (pv 1) pa_nil)))
      (pss_cons (ps_set (i := 3) sc_law.nd rfl (.inl rfl) (pe_calcx c_Form hr (pa_cons (pe_ix ix_tup (pv 2) pe_int (fun _ _ => rfl)) (pa_cons (pe_ix ix_tup (pv 2) pe_int (fun _ _ => rfl)) (pa_cons (pe_ix ix_tup (pv 2) pe_int (fun _ _ => rfl)) (pa_cons (pe_ix ix_tup (pv 2) pe_int (fun _ _ => rfl)) pa_nil))))))
      (pss_cons (ps_set (i := 4) sc_law.nd rfl (.inl rfl) (pe_cal c__law_text hr (pa_cons (pv 2) pa_nil)))
      (C8.pss_cut (ps_if (PW.pt (pw_or (pt_cmpR op_ne (pe_cal c_show_form hr (pa_cons (pv 3) pa_nil)) (pv 4) (nomark _)) (pw_or (pt_cmpR op_ne (pe_callTy (call_strO okS bS MS hr) (by rfl) z.str (by decide +kernel) (pa_cons (pv 3) pa_nil)) (pv 4) (nomark _)) (pw_or1 (pt_not (pt_cmpR (op_eqO okE bE ME hr) (pe_calx c_read_form hr (pa_cons (pv 4) pa_nil)) (pv 3) (nomark _))))))) (pss_one (ps_ret pe_bl)) pss_nil)
      (C8.pss_cut (ps_if (pt_not (pt_cmpR (op_eqO okE bE ME hr) (pe_calkx0 c_read_form_k hr (pk_cons (pv 4) pk_nil)) (pv 3) (nomark _))) (pss_one (ps_ret pe_bl)) pss_nil)
      (pss_cons (ps_set (i := 1) sc_law.nd rfl (.inl rfl) (pe_cal c__law_well hr (pa_cons (pe_cal c__law_cell_at hr (pa_cons (pv 0) (pa_cons pe_int pa_nil))) pa_nil)))
      (C8.pss_cut (ps_for PassesOwn.never rfl (pi_range1 (by rfl) z.range (pa_cons pe_int pa_nil)) (pg_name (i := 5) sc_law.nd rfl (.inl rfl)) (pss_one (ps_if (pt_not (pt_val (pe_cal c__law_right hr (pa_cons (pe_cal c__law_spoilt hr (pa_cons (pv 4) (pa_cons (pv 1) pa_nil))) pa_nil)))) (pss_one (ps_ret pe_bl)) pss_nil)))
      (pss_cons (ps_set (i := 6) sc_law.nd rfl (.inl rfl) (pe_ix ix_list (pe_lst (pa_cons pe_non (pa_cons pe_int (pa_cons pe_bl (pa_cons (pv 3) (pa_cons (pe_lst (pa_cons (pv 4) pa_nil)) (pa_cons (pe_tup (pa_cons (pv 4) pa_nil)) (pa_cons pe_str pa_nil)))))))) (pe_cal c__law_draw hr (pa_cons (pv 1) (pa_cons pe_int pa_nil))) (fun _ _ => rfl)))
      (pss_one (ps_ret (pe_and (pe_cmpR op_eq (pe_cal c__law_told hr (pa_cons (pv 6) pa_nil)) pe_str (nomark _)) (pe_and (pe_cal c__law_right hr (pa_cons (pv 4) pa_nil)) (pe_one (pe_cmpR op_eq (pe_calk0 c_show_form_0_form hr (pk_cons (pv 3) pk_nil)) (pv 4) (nomark _)))))))))))))))), ?_⟩
    refine ⟨_, rfl, as, ns, 0, rfl, hS, _, rfl, fun w1 hw1 H1 s1 k1 => ?_⟩
    refine ⟨_, rfl, w1, 0, rfl, k1, by decide, fun w pt m st tp H2 hwo h0 h1 sb2 ntp htp => ?_⟩
    have SH : Same H H2 := same_but s1 sb2 hw1
    have hpt : -64 ≤ pt ∧ pt ≤ 64 := ⟨h0, h1⟩
    have lf := formT_len m st hwo hpt
    have lf9 : (formT w pt m st).length ≤ 90000 := by omega
    refine ⟨_, rfl, tp, _, 0, wV w, rfl, rfl, SqT.of htp, a0, _, rfl, tp, _, 1, .int pt, rfl, rfl, SqT.of htp, a1, _, rfl, tp, _, 2, .str m.str, rfl, rfl, SqT.of htp, a2, _, rfl, tp, _, 3, .str (endS st), rfl, rfl, SqT.of htp, atI_nat (j := 3) rfl, fun x y hx hy nx => init_good upd_same hwo h0 h1 fun H3 hf kp => ⟨rfl, ?_⟩⟩
    have S3 := made_same hx hy kp
    replace SH := SH.trans S3
    replace htp := S3 _ _ htp
    clear kp hx hy nx s1 k1 sb2
    refine ⟨_, rfl, tp, w, pt, m, st, rfl, htp, hwo, h0, h1, fun H4 s4 => ?_⟩
    replace SH := SH.trans s4
    replace hf := hf.same s4
    clear htp s4 S3
    have go : ∀ (G : Hp), Same H G → FormAt C G x w pt m st → (fun (σ : L2.St) (G : Hp) => Same H G ∧ FormAt C G x w pt m st ∧ σ = [some (.ref as), some (.ref w1), some (.ref tp), some (.ref x), some (sV (formT w pt m st)), none, none]) [some (.ref as), some (.ref w1), some (.ref tp), some (.ref x), some (sV (formT w pt m st)), none, none] G := fun G a b => ⟨a, b, rfl⟩
    refine ⟨fun σ G => Same H G ∧ FormAt C G x w pt m st ∧ σ = [some (.ref as), some (.ref w1), some (.ref tp), some (.ref x), some (sV (formT w pt m st)), none, none], ?_, fun σ G hM => ?_⟩
    · refine ⟨_, rfl, x, w, pt, m, st, rfl, hf, _, rfl, rfl, _, rfl, iteNS rfl ?_⟩
      obtain ⟨dx, ho⟩ := hf.ob
      refine ⟨_, rfl, x, dx, _, rfl, ho, x, w, pt, m, st, rfl, hf, _, rfl, _, rfl, rfl, _, rfl, ?_⟩
      rw [strF_S]
      refine iteNS rfl ?_
      refine ⟨_, rfl, _, rfl, .inl ⟨_, rfl, lf9, (fun e => by rw [rdF_form m st hwo hpt] at e; cases e), fun w2 pt2 m2 st2 e2 p G s hp f => ?_⟩⟩
      rw [rdF_form m st hwo hpt] at e2
      cases e2
      replace hf := hf.same s
      replace SH := SH.trans s
      obtain ⟨dx1, ho1⟩ := f.ob
      obtain ⟨dx2, ho2⟩ := hf.ob
      refine ⟨_, rfl, p, dx1, _, rfl, ho1, .inl ⟨x, dx2, _, rfl, ho2⟩, p, w, pt, m, st, _, rfl, f, .inl ⟨x, w, pt, m, st, rfl, hf, _, rfl, _, rfl, ?_⟩⟩
      rw [al_same]
      exact iteF ⟨SH, hf, rfl⟩
    obtain ⟨SH, hf, rfl⟩ := hM
    refine ⟨fun σ G => Same H G ∧ FormAt C G x w pt m st ∧ σ = [some (.ref as), some (.ref w1), some (.ref tp), some (.ref x), some (sV (formT w pt m st)), none, none], ?_, fun σ G hM => ?_⟩
    · refine ⟨_, rfl, rfl, rfl, _, rfl, .inl ⟨_, rfl, lf9, (fun e => by rw [rdF_form m st hwo hpt] at e; cases e), fun w2 pt2 m2 st2 e2 p G s hp f => ?_⟩⟩
      rw [rdF_form m st hwo hpt] at e2
      cases e2
      replace hf := hf.same s
      replace SH := SH.trans s
      obtain ⟨dx1, ho1⟩ := f.ob
      obtain ⟨dx2, ho2⟩ := hf.ob
      refine ⟨_, rfl, p, dx1, _, rfl, ho1, .inl ⟨x, dx2, _, rfl, ho2⟩, p, w, pt, m, st, _, rfl, f, .inl ⟨x, w, pt, m, st, rfl, hf, _, rfl, _, rfl, ?_⟩⟩
      rw [al_same]
      exact iteF ⟨SH, hf, rfl⟩
    obtain ⟨SH, hf, rfl⟩ := hM
    refine ⟨_, rfl, as, ns, 1, rfl, Same.sqL SH hS, _, rfl, fun w2 hw2 H5 s5 k5 => ?_⟩
    replace SH := SH.trans s5
    obtain ⟨dx0, ho0⟩ := hf.ob
    have nx : x ≠ w2 := ne_of_none ho0 hw2
    replace hf := hf.same s5
    clear go hw2 ho0
    refine ⟨fun σ G => ∃ y : Option V, FormAt C G x w pt m st ∧ WellAt G w2 100 ∧ σ = [some (.ref as), some (.ref w2), some (.ref tp), some (.ref x), some (sV (formT w pt m st)), y, none], ?_, fun σ G hM => ?_⟩
    · refine ⟨4, rfl, by decide, by decide, ?_⟩
      refine for_it walk_range (fun i σ G => ∃ y : Option V, FormAt C G x w pt m st ∧ WellAt G w2 (4 * i) ∧ σ = [some (.ref as), some (.ref w2), some (.ref tp), some (.ref x), some (sV (formT w pt m st)), y, none] ∧ i ≤ 4) ⟨none, hf, k5.mono (by decide), rfl, by decide⟩ (fun _ _ _ _ _ => trivial) (fun i x' σ G G' hi hP hY => ?_) (fun σ G hP => ?_)
      · obtain ⟨y, hf, wl, rfl, _⟩ := hP
        obtain ⟨rfl, rfl⟩ := hY
        refine ⟨_, rfl, _, rfl, w, pt, m, st, w2, 4 * (i : Int), rfl, hwo, hpt, wl, by omega, by omega, fun z G2 lz sb wl2 => ?_⟩
        replace hf := hf.but sb nx
        refine ⟨z, rfl, by omega, fun G3 s3 => ⟨_, rfl, iteF ⟨_, hf.same s3, (wl2.same s3).mono (by omega), rfl, hi⟩⟩⟩
      · obtain ⟨y, hf, wl, rfl, _⟩ := hP
        exact ⟨y, hf, wl.mono (by omega), rfl⟩
    obtain ⟨y, hf, wl, rfl⟩ := hM
    clear k5 s5 SH hS
    refine ⟨_, rfl, _, rfl, (by show 1 ≤ sizeLine; decide), fun b1 hb1 => ?_⟩
    generalize hG : upd _ b1 _ = G1
    obtain ⟨s, h_b1⟩ := upd_gen hG hb1
    replace hf := hf.same s
    have n1 := wl.ne hb1
    replace wl := wl.same s
    clear hG s hb1
    refine ⟨_, rfl, (by show 1 ≤ sizeLine; decide), fun b2 hb2 => ?_⟩
    generalize hG : upd _ b2 _ = G2
    obtain ⟨s, h_b2⟩ := upd_gen hG hb2
    replace hf := hf.same s
    have n2 := wl.ne hb2
    replace wl := wl.same s
    replace h_b1 := s _ _ h_b1
    clear hG s hb2
    refine ⟨(by show 7 ≤ sizeLine; decide), fun L hL => ?_⟩
    generalize hG : upd _ L _ = G3
    obtain ⟨s, h_L⟩ := upd_gen hG hL
    replace hf := hf.same s
    have nL := wl.ne hL
    replace wl := wl.same s
    replace h_b1 := s _ _ h_b1
    replace h_b2 := s _ _ h_b2
    clear hG s hL
    refine ⟨_, rfl, w2, 100, 7, rfl, wl, by decide, by decide, by decide +kernel, fun r H6 r0 r1 d6 e6 w6 => ?_⟩
    replace hf := hf.but d6 nx
    replace h_b1 := d6 _ _ n1 h_b1
    replace h_b2 := d6 _ _ n2 h_b2
    replace h_L := d6 _ _ nL h_L
    have hx : ∃ v : V, atI [V.non, V.int 8, V.bl true, V.ref x, V.ref b1, V.ref b2, V.str (Str.ofString "")] r = some v ∧ (v = sV [] ∨ NoTxt K H6 v) := by
      obtain ⟨dx, ho⟩ := hf.ob
      rcases (by omega : r = 0 ∨ r = 1 ∨ r = 2 ∨ r = 3 ∨ r = 4 ∨ r = 5 ∨ r = 6) with rfl | rfl | rfl | rfl | rfl | rfl | rfl
      · exact ⟨_, rfl, .inr (.inl ⟨_, .base .non, by decide +kernel⟩)⟩
      · exact ⟨_, rfl, .inr (.inl ⟨_, .base (.int 8), by decide +kernel⟩)⟩
      · exact ⟨_, rfl, .inr (.inl ⟨_, .base (.bl true), by decide +kernel⟩)⟩
      · exact ⟨_, rfl, .inr (.inr ⟨C, .base (.ins ho T.cl X.ha X.hn X.ht X.hm), X.kI⟩)⟩
      · exact ⟨_, rfl, .inr (.inl ⟨_, .base (.lst h_b1), by decide +kernel⟩)⟩
      · exact ⟨_, rfl, .inr (.inl ⟨_, .base (.tup h_b2), by decide +kernel⟩)⟩
      · exact ⟨_, rfl, .inl rfl⟩
    obtain ⟨v, hv, hk⟩ := hx
    refine ⟨L, _, r, v, rfl, rfl, SqL.of h_L, hv, _, rfl, v, rfl, ?_⟩
    rcases hk with rfl | hk
    · exact .inl ⟨[], rfl, by decide, fun _ G s1 => ⟨rfl, _, rfl, iteC (d := true) (by rw [decide_eq_true rfl]) (iteT ⟨_, rfl, _, rfl, by rw [SX.S_len]; exact lf9, fun G2 s2 => ⟨_, rfl, iteT ⟨_, rfl, rfl, rfl, x, w, pt, m, st, rfl, hf.same (s1.trans s2), _, rfl, rfl, by rw [decide_eq_true rfl]; exact q _⟩⟩⟩)⟩, fun w2 pt2 m2 st2 e => by rw [rdF_nil] at e; cases e⟩
    · exact .inr ⟨hk, fun G s1 => ⟨rfl, _, rfl, iteC (d := true) (by rw [decide_eq_true rfl]) (iteT ⟨_, rfl, _, rfl, by rw [SX.S_len]; exact lf9, fun G2 s2 => ⟨_, rfl, iteT ⟨_, rfl, rfl, rfl, x, w, pt, m, st, rfl, hf.same (s1.trans s2), _, rfl, rfl, by rw [decide_eq_true rfl]; exact q _⟩⟩⟩)⟩⟩
end
end E1

namespace E1
open PySem PySem.Spec PyProof.Rows L2

abbrev s_BadForm___init__ : Stmt := inClass (topS 3) 0
theorem bad_ini {P : Program} {w : World} {K : PySem.W.Frag} {mg : Str → Option Value} {C fI cc : Addr} (EC : PySem.ErrX.ErrC K mg "BadForm" C) (IC : PySem.ErrX.IniC P K mg C fI cc "BadForm.__init__" "part" s_BadForm___init__ .none) : PySem.ErrX.IniOk P w K mg C fI "part" := by
  refine ⟨IC.iC, IC.tC, fun A R s x t0 v MO hx hnx hroom fv hq => ?_⟩
  refine PySem.ErrX.err_init EC IC ⟨by decide +kernel, by decide +kernel, by decide +kernel, by decide +kernel, by decide +kernel⟩ rfl rfl ?_ ?_ rfl rfl MO hx hnx hroom fv ?_ hq
  · intro e he
    simp only [List.mem_cons, List.not_mem_nil, or_false] at he
    rcases he with rfl | rfl | rfl
    · exact .c (by decide)
    · exact .f
    · exact .c (by decide)
  · decide
  · intro kV doc pm an cda ct
    exact .of_eq rfl

abbrev s_NoText___init__ : Stmt := inClass (topS 6) 0
theorem notext_ini {P : Program} {w : World} {K : PySem.W.Frag} {mg : Str → Option Value} {C fI cc T : Addr} {to : Value} {td : Option Addr} {its : Array Value} {tn : Nat} {ts : Array (Option Value)} (lT : K.lookup T = some ⟨to, td, .seq its tn, ts⟩) (h1 : its.size = 1) (EC : PySem.ErrX.ErrC K mg "NoText" C) (IC : PySem.ErrX.IniC P K mg C fI cc "NoText.__init__" "line" s_NoText___init__ (.ref T)) : PySem.ErrX.IniOk P w K mg C fI "line" := by
  refine ⟨IC.iC, IC.tC, fun A R s x t0 v MO hx hnx hroom fv hq => ?_⟩
  refine PySem.ErrX.err_init EC IC ⟨by decide +kernel, by decide +kernel, by decide +kernel, by decide +kernel, by decide +kernel⟩ rfl rfl ?_ ?_ rfl rfl MO hx hnx hroom fv ?_ hq
  · intro e he
    simp only [List.mem_cons, List.not_mem_nil, or_false] at he
    rcases he with rfl | rfl
    · exact .c (by decide)
    · exact .f
  · decide
  · intro kV doc pm an cda ct
    obtain ⟨l⟩ := its
    match l, h1 with
    | [i0], _ =>
      have hk : ∃ k, bindArgs (PySem.W.ksFn "__init__" "NoText.__init__" (defArgs s_NoText___init__) (defBody s_NoText___init__) (defScope s_NoText___init__) (.ref T) kV doc pm an (.ref cda) ct cc) ⟨[.ref x, v], []⟩ = seqItems? (.ref T) >>= k ∧ k (some [i0].toArray) = pure [(Str.ofString "self", .ref x), ("line", v)] := ⟨_, rfl, rfl⟩
      obtain ⟨k, e1, e2⟩ := hk
      refine BindsTo.of_looks fun M => ?_
      rw [e1]
      exact looks_items MO.kin lT rfl (.of_pure e2)

end E1

namespace E1
open PySem PySem.Spec PyProof.Rows L2

theorem Vals.rev : ∀ {xs : List V} {us : List Value}, Vals xs us → Vals xs.reverse us.reverse
  | _, _, .nil => .nil
  | _, _, .cons r t => by
    rw [List.reverse_cons, List.reverse_cons]
    exact Vals.append (Vals.rev t) (.cons r .nil)
section
variable {P : Program} {w : World} {K : PySem.W.Frag} {mg : Str → Option Value} {base : Heap} {x : Str} {st : Stmt} {f : Addr} {fd : FuncData} {ps ks : List Str} {k n : Nat} {sp : Sp}
/-- a def without defaults: its arguments by keywords alone or behind others -/
theorem Fun.kbn {qual : Str} (F : Fun K x qual st f fd) {g : List Value → List Value → List Value} {gV : List V → List V → List V} (hrel : ∀ {vs : List V} {us : List Value} {zs : List V} {ws : List Value}, Vals vs us → Vals zs ws → Vals (gV vs zs) (g us ws))
    (h : ∀ (kV doc pm : Value) (an : Option Addr) (cdv ct : Value) (us ws : List Value), us.length = n → ws.length = ks.length → bindArgs (PySem.W.fnOf x qual (defArgs st) (defBody st) (defScope st) .none kV doc pm an cdv ct) ⟨us, ks.zip ws⟩ = pure (ps.zip (g us ws))) : KBn K fd ps n ks g gV := by
  rcases F.ex with ⟨_, _, v1, v2, v3, v4, v5, v6, _, same, _, _⟩
  subst same
  exact ⟨fun s us ws _ l1 l2 => .of_eq (h v1 v2 v3 v4 v5 v6 us ws l1 l2), hrel⟩
/-- a def with defaults, all arguments given -/
theorem FunD.kbn {qual : Str} {params : Arguments} {body : List Stmt} {scope : Scope} {dvs : List V} {kws : List (Str × V)} (F : FunD K x qual params body scope dvs kws f fd) (hd : dvs ≠ []) {g : List Value → List Value → List Value} {gV : List V → List V → List V} (hrel : ∀ {vs : List V} {us : List Value} {zs : List V} {ws : List Value}, Vals vs us → Vals zs ws → Vals (gV vs zs) (g us ws))
    (h : ∀ (T : Addr) (kV doc pm : Value) (an : Option Addr) (cdv ct : Value) (us ws its : List Value), us.length = n → ws.length = ks.length → its.length = dvs.length → ∃ k, bindArgs (PySem.W.fnOf x qual params body scope (.ref T) kV doc pm an cdv ct) ⟨us, ks.zip ws⟩ = seqItems? (.ref T) >>= k ∧ k (some its.toArray) = pure (ps.zip (g us ws))) : KBn K fd ps n ks g gV := by
  rcases F.ex with ⟨_, _, _, v1, v2, v3, v4, v5, v6, _, same, _, _, bare | given, _⟩
  · exact absurd bare.1 hd
  · rcases given with ⟨_, T, _, its, _, dv, at_, it, rel⟩
    subst same dv
    refine ⟨fun s us ws inn l1 l2 => BindsTo.of_looks fun M => ?_, hrel⟩
    rcases h T v1 v2 v3 v4 v5 v6 us ws its l1 l2 rel.length.symm with ⟨go, b1, b2⟩
    rw [b1]
    exact looks_items inn at_ it (.of_pure b2)
end
theorem all_mk {l : PySem.W.OpenLaw} {w : World} {K : PySem.W.Frag} {h : Heap} {mg : Str → Option Value} {fa f_is_whole f_downward f_upward f_inward f_outward f_nearest_greater f_nearest_even f_nearest_far f_is_manner f_is_width f_is_point f_is_ends f_whole_of f_show_form f_check_text f_form_of f_read_form f__law_cell_at f__law_well f__law_draw f__law_parts f__law_text f__law_number f__law_read f__law_spoilt f__law_told f__law_right f_law C f_Form___eq__ f_Form___str__ f_Form___init__ T_Form___init__ A_ENDS A_MANNERS CE CW CU CB fI_CB cc_CB cda_CB T_CT CT fI_CT cc_CT cda_CT : Addr} (X : K.In h) (G : h.Ns mainGlobals mg) (hfa : mg "law" = some (.ref fa))
    {od_is_whole an_is_whole : Option Addr} {sl_is_whole : Array (Option Value)} {oc_is_whole kV_is_whole dc_is_whole pm_is_whole cd_is_whole ct_is_whole : Value}
    (a_is_whole : PySem.W.nsIn K mainGlobals "is_whole" = some (some (.ref f_is_whole)))
    (l_is_whole : K.lookup f_is_whole = some ⟨oc_is_whole, od_is_whole, .func (PySem.W.fnOf "is_whole" "is_whole" (defArgs s_is_whole) (defBody s_is_whole) (defScope s_is_whole) .none kV_is_whole dc_is_whole pm_is_whole an_is_whole cd_is_whole ct_is_whole), sl_is_whole⟩)
    (c_is_whole : PySem.W.codeIn K cd_is_whole "is_whole" = true)
    (k_is_whole : PySem.W.keepIn K (.ref f_is_whole) = true)
    {od_downward an_downward : Option Addr} {sl_downward : Array (Option Value)} {oc_downward kV_downward dc_downward pm_downward cd_downward ct_downward : Value}
    (a_downward : PySem.W.nsIn K mainGlobals "downward" = some (some (.ref f_downward)))
    (l_downward : K.lookup f_downward = some ⟨oc_downward, od_downward, .func (PySem.W.fnOf "downward" "downward" (defArgs s_downward) (defBody s_downward) (defScope s_downward) .none kV_downward dc_downward pm_downward an_downward cd_downward ct_downward), sl_downward⟩)
    (c_downward : PySem.W.codeIn K cd_downward "downward" = true)
    (k_downward : PySem.W.keepIn K (.ref f_downward) = true)
    {od_upward an_upward : Option Addr} {sl_upward : Array (Option Value)} {oc_upward kV_upward dc_upward pm_upward cd_upward ct_upward : Value}
    (a_upward : PySem.W.nsIn K mainGlobals "upward" = some (some (.ref f_upward)))
    (l_upward : K.lookup f_upward = some ⟨oc_upward, od_upward, .func (PySem.W.fnOf "upward" "upward" (defArgs s_upward) (defBody s_upward) (defScope s_upward) .none kV_upward dc_upward pm_upward an_upward cd_upward ct_upward), sl_upward⟩)
    (c_upward : PySem.W.codeIn K cd_upward "upward" = true)
    (k_upward : PySem.W.keepIn K (.ref f_upward) = true)
    {od_inward an_inward : Option Addr} {sl_inward : Array (Option Value)} {oc_inward kV_inward dc_inward pm_inward cd_inward ct_inward : Value}
    (a_inward : PySem.W.nsIn K mainGlobals "inward" = some (some (.ref f_inward)))
    (l_inward : K.lookup f_inward = some ⟨oc_inward, od_inward, .func (PySem.W.fnOf "inward" "inward" (defArgs s_inward) (defBody s_inward) (defScope s_inward) .none kV_inward dc_inward pm_inward an_inward cd_inward ct_inward), sl_inward⟩)
    (c_inward : PySem.W.codeIn K cd_inward "inward" = true)
    (k_inward : PySem.W.keepIn K (.ref f_inward) = true)
    {od_outward an_outward : Option Addr} {sl_outward : Array (Option Value)} {oc_outward kV_outward dc_outward pm_outward cd_outward ct_outward : Value}
    (a_outward : PySem.W.nsIn K mainGlobals "outward" = some (some (.ref f_outward)))
    (l_outward : K.lookup f_outward = some ⟨oc_outward, od_outward, .func (PySem.W.fnOf "outward" "outward" (defArgs s_outward) (defBody s_outward) (defScope s_outward) .none kV_outward dc_outward pm_outward an_outward cd_outward ct_outward), sl_outward⟩)
    (c_outward : PySem.W.codeIn K cd_outward "outward" = true)
    (k_outward : PySem.W.keepIn K (.ref f_outward) = true)
    {od_nearest_greater an_nearest_greater : Option Addr} {sl_nearest_greater : Array (Option Value)} {oc_nearest_greater kV_nearest_greater dc_nearest_greater pm_nearest_greater cd_nearest_greater ct_nearest_greater : Value}
    (a_nearest_greater : PySem.W.nsIn K mainGlobals "nearest_greater" = some (some (.ref f_nearest_greater)))
    (l_nearest_greater : K.lookup f_nearest_greater = some ⟨oc_nearest_greater, od_nearest_greater, .func (PySem.W.fnOf "nearest_greater" "nearest_greater" (defArgs s_nearest_greater) (defBody s_nearest_greater) (defScope s_nearest_greater) .none kV_nearest_greater dc_nearest_greater pm_nearest_greater an_nearest_greater cd_nearest_greater ct_nearest_greater), sl_nearest_greater⟩)
    (c_nearest_greater : PySem.W.codeIn K cd_nearest_greater "nearest_greater" = true)
    (k_nearest_greater : PySem.W.keepIn K (.ref f_nearest_greater) = true)
    {od_nearest_even an_nearest_even : Option Addr} {sl_nearest_even : Array (Option Value)} {oc_nearest_even kV_nearest_even dc_nearest_even pm_nearest_even cd_nearest_even ct_nearest_even : Value}
    (a_nearest_even : PySem.W.nsIn K mainGlobals "nearest_even" = some (some (.ref f_nearest_even)))
    (l_nearest_even : K.lookup f_nearest_even = some ⟨oc_nearest_even, od_nearest_even, .func (PySem.W.fnOf "nearest_even" "nearest_even" (defArgs s_nearest_even) (defBody s_nearest_even) (defScope s_nearest_even) .none kV_nearest_even dc_nearest_even pm_nearest_even an_nearest_even cd_nearest_even ct_nearest_even), sl_nearest_even⟩)
    (c_nearest_even : PySem.W.codeIn K cd_nearest_even "nearest_even" = true)
    (k_nearest_even : PySem.W.keepIn K (.ref f_nearest_even) = true)
    {od_nearest_far an_nearest_far : Option Addr} {sl_nearest_far : Array (Option Value)} {oc_nearest_far kV_nearest_far dc_nearest_far pm_nearest_far cd_nearest_far ct_nearest_far : Value}
    (a_nearest_far : PySem.W.nsIn K mainGlobals "nearest_far" = some (some (.ref f_nearest_far)))
    (l_nearest_far : K.lookup f_nearest_far = some ⟨oc_nearest_far, od_nearest_far, .func (PySem.W.fnOf "nearest_far" "nearest_far" (defArgs s_nearest_far) (defBody s_nearest_far) (defScope s_nearest_far) .none kV_nearest_far dc_nearest_far pm_nearest_far an_nearest_far cd_nearest_far ct_nearest_far), sl_nearest_far⟩)
    (c_nearest_far : PySem.W.codeIn K cd_nearest_far "nearest_far" = true)
    (k_nearest_far : PySem.W.keepIn K (.ref f_nearest_far) = true)
    {od_is_manner an_is_manner : Option Addr} {sl_is_manner : Array (Option Value)} {oc_is_manner kV_is_manner dc_is_manner pm_is_manner cd_is_manner ct_is_manner : Value}
    (a_is_manner : PySem.W.nsIn K mainGlobals "is_manner" = some (some (.ref f_is_manner)))
    (l_is_manner : K.lookup f_is_manner = some ⟨oc_is_manner, od_is_manner, .func (PySem.W.fnOf "is_manner" "is_manner" (defArgs s_is_manner) (defBody s_is_manner) (defScope s_is_manner) .none kV_is_manner dc_is_manner pm_is_manner an_is_manner cd_is_manner ct_is_manner), sl_is_manner⟩)
    (c_is_manner : PySem.W.codeIn K cd_is_manner "is_manner" = true)
    (k_is_manner : PySem.W.keepIn K (.ref f_is_manner) = true)
    {od_is_width an_is_width : Option Addr} {sl_is_width : Array (Option Value)} {oc_is_width kV_is_width dc_is_width pm_is_width cd_is_width ct_is_width : Value}
    (a_is_width : PySem.W.nsIn K mainGlobals "is_width" = some (some (.ref f_is_width)))
    (l_is_width : K.lookup f_is_width = some ⟨oc_is_width, od_is_width, .func (PySem.W.fnOf "is_width" "is_width" (defArgs s_is_width) (defBody s_is_width) (defScope s_is_width) .none kV_is_width dc_is_width pm_is_width an_is_width cd_is_width ct_is_width), sl_is_width⟩)
    (c_is_width : PySem.W.codeIn K cd_is_width "is_width" = true)
    (k_is_width : PySem.W.keepIn K (.ref f_is_width) = true)
    {od_is_point an_is_point : Option Addr} {sl_is_point : Array (Option Value)} {oc_is_point kV_is_point dc_is_point pm_is_point cd_is_point ct_is_point : Value}
    (a_is_point : PySem.W.nsIn K mainGlobals "is_point" = some (some (.ref f_is_point)))
    (l_is_point : K.lookup f_is_point = some ⟨oc_is_point, od_is_point, .func (PySem.W.fnOf "is_point" "is_point" (defArgs s_is_point) (defBody s_is_point) (defScope s_is_point) .none kV_is_point dc_is_point pm_is_point an_is_point cd_is_point ct_is_point), sl_is_point⟩)
    (c_is_point : PySem.W.codeIn K cd_is_point "is_point" = true)
    (k_is_point : PySem.W.keepIn K (.ref f_is_point) = true)
    {od_is_ends an_is_ends : Option Addr} {sl_is_ends : Array (Option Value)} {oc_is_ends kV_is_ends dc_is_ends pm_is_ends cd_is_ends ct_is_ends : Value}
    (a_is_ends : PySem.W.nsIn K mainGlobals "is_ends" = some (some (.ref f_is_ends)))
    (l_is_ends : K.lookup f_is_ends = some ⟨oc_is_ends, od_is_ends, .func (PySem.W.fnOf "is_ends" "is_ends" (defArgs s_is_ends) (defBody s_is_ends) (defScope s_is_ends) .none kV_is_ends dc_is_ends pm_is_ends an_is_ends cd_is_ends ct_is_ends), sl_is_ends⟩)
    (c_is_ends : PySem.W.codeIn K cd_is_ends "is_ends" = true)
    (k_is_ends : PySem.W.keepIn K (.ref f_is_ends) = true)
    {od_whole_of an_whole_of : Option Addr} {sl_whole_of : Array (Option Value)} {oc_whole_of kV_whole_of dc_whole_of pm_whole_of cd_whole_of ct_whole_of : Value}
    (a_whole_of : PySem.W.nsIn K mainGlobals "whole_of" = some (some (.ref f_whole_of)))
    (l_whole_of : K.lookup f_whole_of = some ⟨oc_whole_of, od_whole_of, .func (PySem.W.fnOf "whole_of" "whole_of" (defArgs s_whole_of) (defBody s_whole_of) (defScope s_whole_of) .none kV_whole_of dc_whole_of pm_whole_of an_whole_of cd_whole_of ct_whole_of), sl_whole_of⟩)
    (c_whole_of : PySem.W.codeIn K cd_whole_of "whole_of" = true)
    (k_whole_of : PySem.W.keepIn K (.ref f_whole_of) = true)
    {od_show_form an_show_form : Option Addr} {sl_show_form : Array (Option Value)} {oc_show_form kV_show_form dc_show_form pm_show_form cd_show_form ct_show_form : Value}
    (a_show_form : PySem.W.nsIn K mainGlobals "show_form" = some (some (.ref f_show_form)))
    (l_show_form : K.lookup f_show_form = some ⟨oc_show_form, od_show_form, .func (PySem.W.fnOf "show_form" "show_form" (defArgs s_show_form) (defBody s_show_form) (defScope s_show_form) .none kV_show_form dc_show_form pm_show_form an_show_form cd_show_form ct_show_form), sl_show_form⟩)
    (c_show_form : PySem.W.codeIn K cd_show_form "show_form" = true)
    (k_show_form : PySem.W.keepIn K (.ref f_show_form) = true)
    {od_check_text an_check_text : Option Addr} {sl_check_text : Array (Option Value)} {oc_check_text kV_check_text dc_check_text pm_check_text cd_check_text ct_check_text : Value}
    (a_check_text : PySem.W.nsIn K mainGlobals "check_text" = some (some (.ref f_check_text)))
    (l_check_text : K.lookup f_check_text = some ⟨oc_check_text, od_check_text, .func (PySem.W.fnOf "check_text" "check_text" (defArgs s_check_text) (defBody s_check_text) (defScope s_check_text) .none kV_check_text dc_check_text pm_check_text an_check_text cd_check_text ct_check_text), sl_check_text⟩)
    (c_check_text : PySem.W.codeIn K cd_check_text "check_text" = true)
    (k_check_text : PySem.W.keepIn K (.ref f_check_text) = true)
    {od_form_of an_form_of : Option Addr} {sl_form_of : Array (Option Value)} {oc_form_of kV_form_of dc_form_of pm_form_of cd_form_of ct_form_of : Value}
    (a_form_of : PySem.W.nsIn K mainGlobals "form_of" = some (some (.ref f_form_of)))
    (l_form_of : K.lookup f_form_of = some ⟨oc_form_of, od_form_of, .func (PySem.W.fnOf "form_of" "form_of" (defArgs s_form_of) (defBody s_form_of) (defScope s_form_of) .none kV_form_of dc_form_of pm_form_of an_form_of cd_form_of ct_form_of), sl_form_of⟩)
    (c_form_of : PySem.W.codeIn K cd_form_of "form_of" = true)
    (k_form_of : PySem.W.keepIn K (.ref f_form_of) = true)
    {od_read_form an_read_form : Option Addr} {sl_read_form : Array (Option Value)} {oc_read_form kV_read_form dc_read_form pm_read_form cd_read_form ct_read_form : Value}
    (a_read_form : PySem.W.nsIn K mainGlobals "read_form" = some (some (.ref f_read_form)))
    (l_read_form : K.lookup f_read_form = some ⟨oc_read_form, od_read_form, .func (PySem.W.fnOf "read_form" "read_form" (defArgs s_read_form) (defBody s_read_form) (defScope s_read_form) .none kV_read_form dc_read_form pm_read_form an_read_form cd_read_form ct_read_form), sl_read_form⟩)
    (c_read_form : PySem.W.codeIn K cd_read_form "read_form" = true)
    (k_read_form : PySem.W.keepIn K (.ref f_read_form) = true)
    {od__law_cell_at an__law_cell_at : Option Addr} {sl__law_cell_at : Array (Option Value)} {oc__law_cell_at kV__law_cell_at dc__law_cell_at pm__law_cell_at cd__law_cell_at ct__law_cell_at : Value}
    (a__law_cell_at : PySem.W.nsIn K mainGlobals "_law_cell_at" = some (some (.ref f__law_cell_at)))
    (l__law_cell_at : K.lookup f__law_cell_at = some ⟨oc__law_cell_at, od__law_cell_at, .func (PySem.W.fnOf "_law_cell_at" "_law_cell_at" (defArgs s__law_cell_at) (defBody s__law_cell_at) (defScope s__law_cell_at) .none kV__law_cell_at dc__law_cell_at pm__law_cell_at an__law_cell_at cd__law_cell_at ct__law_cell_at), sl__law_cell_at⟩)
    (c__law_cell_at : PySem.W.codeIn K cd__law_cell_at "_law_cell_at" = true)
    (k__law_cell_at : PySem.W.keepIn K (.ref f__law_cell_at) = true)
    {od__law_well an__law_well : Option Addr} {sl__law_well : Array (Option Value)} {oc__law_well kV__law_well dc__law_well pm__law_well cd__law_well ct__law_well : Value}
    (a__law_well : PySem.W.nsIn K mainGlobals "_law_well" = some (some (.ref f__law_well)))
    (l__law_well : K.lookup f__law_well = some ⟨oc__law_well, od__law_well, .func (PySem.W.fnOf "_law_well" "_law_well" (defArgs s__law_well) (defBody s__law_well) (defScope s__law_well) .none kV__law_well dc__law_well pm__law_well an__law_well cd__law_well ct__law_well), sl__law_well⟩)
    (c__law_well : PySem.W.codeIn K cd__law_well "_law_well" = true)
    (k__law_well : PySem.W.keepIn K (.ref f__law_well) = true)
    {od__law_draw an__law_draw : Option Addr} {sl__law_draw : Array (Option Value)} {oc__law_draw kV__law_draw dc__law_draw pm__law_draw cd__law_draw ct__law_draw : Value}
    (a__law_draw : PySem.W.nsIn K mainGlobals "_law_draw" = some (some (.ref f__law_draw)))
    (l__law_draw : K.lookup f__law_draw = some ⟨oc__law_draw, od__law_draw, .func (PySem.W.fnOf "_law_draw" "_law_draw" (defArgs s__law_draw) (defBody s__law_draw) (defScope s__law_draw) .none kV__law_draw dc__law_draw pm__law_draw an__law_draw cd__law_draw ct__law_draw), sl__law_draw⟩)
    (c__law_draw : PySem.W.codeIn K cd__law_draw "_law_draw" = true)
    (k__law_draw : PySem.W.keepIn K (.ref f__law_draw) = true)
    {od__law_parts an__law_parts : Option Addr} {sl__law_parts : Array (Option Value)} {oc__law_parts kV__law_parts dc__law_parts pm__law_parts cd__law_parts ct__law_parts : Value}
    (a__law_parts : PySem.W.nsIn K mainGlobals "_law_parts" = some (some (.ref f__law_parts)))
    (l__law_parts : K.lookup f__law_parts = some ⟨oc__law_parts, od__law_parts, .func (PySem.W.fnOf "_law_parts" "_law_parts" (defArgs s__law_parts) (defBody s__law_parts) (defScope s__law_parts) .none kV__law_parts dc__law_parts pm__law_parts an__law_parts cd__law_parts ct__law_parts), sl__law_parts⟩)
    (c__law_parts : PySem.W.codeIn K cd__law_parts "_law_parts" = true)
    (k__law_parts : PySem.W.keepIn K (.ref f__law_parts) = true)
    {od__law_text an__law_text : Option Addr} {sl__law_text : Array (Option Value)} {oc__law_text kV__law_text dc__law_text pm__law_text cd__law_text ct__law_text : Value}
    (a__law_text : PySem.W.nsIn K mainGlobals "_law_text" = some (some (.ref f__law_text)))
    (l__law_text : K.lookup f__law_text = some ⟨oc__law_text, od__law_text, .func (PySem.W.fnOf "_law_text" "_law_text" (defArgs s__law_text) (defBody s__law_text) (defScope s__law_text) .none kV__law_text dc__law_text pm__law_text an__law_text cd__law_text ct__law_text), sl__law_text⟩)
    (c__law_text : PySem.W.codeIn K cd__law_text "_law_text" = true)
    (k__law_text : PySem.W.keepIn K (.ref f__law_text) = true)
    {od__law_number an__law_number : Option Addr} {sl__law_number : Array (Option Value)} {oc__law_number kV__law_number dc__law_number pm__law_number cd__law_number ct__law_number : Value}
    (a__law_number : PySem.W.nsIn K mainGlobals "_law_number" = some (some (.ref f__law_number)))
    (l__law_number : K.lookup f__law_number = some ⟨oc__law_number, od__law_number, .func (PySem.W.fnOf "_law_number" "_law_number" (defArgs s__law_number) (defBody s__law_number) (defScope s__law_number) .none kV__law_number dc__law_number pm__law_number an__law_number cd__law_number ct__law_number), sl__law_number⟩)
    (c__law_number : PySem.W.codeIn K cd__law_number "_law_number" = true)
    (k__law_number : PySem.W.keepIn K (.ref f__law_number) = true)
    {od__law_read an__law_read : Option Addr} {sl__law_read : Array (Option Value)} {oc__law_read kV__law_read dc__law_read pm__law_read cd__law_read ct__law_read : Value}
    (a__law_read : PySem.W.nsIn K mainGlobals "_law_read" = some (some (.ref f__law_read)))
    (l__law_read : K.lookup f__law_read = some ⟨oc__law_read, od__law_read, .func (PySem.W.fnOf "_law_read" "_law_read" (defArgs s__law_read) (defBody s__law_read) (defScope s__law_read) .none kV__law_read dc__law_read pm__law_read an__law_read cd__law_read ct__law_read), sl__law_read⟩)
    (c__law_read : PySem.W.codeIn K cd__law_read "_law_read" = true)
    (k__law_read : PySem.W.keepIn K (.ref f__law_read) = true)
    {od__law_spoilt an__law_spoilt : Option Addr} {sl__law_spoilt : Array (Option Value)} {oc__law_spoilt kV__law_spoilt dc__law_spoilt pm__law_spoilt cd__law_spoilt ct__law_spoilt : Value}
    (a__law_spoilt : PySem.W.nsIn K mainGlobals "_law_spoilt" = some (some (.ref f__law_spoilt)))
    (l__law_spoilt : K.lookup f__law_spoilt = some ⟨oc__law_spoilt, od__law_spoilt, .func (PySem.W.fnOf "_law_spoilt" "_law_spoilt" (defArgs s__law_spoilt) (defBody s__law_spoilt) (defScope s__law_spoilt) .none kV__law_spoilt dc__law_spoilt pm__law_spoilt an__law_spoilt cd__law_spoilt ct__law_spoilt), sl__law_spoilt⟩)
    (c__law_spoilt : PySem.W.codeIn K cd__law_spoilt "_law_spoilt" = true)
    (k__law_spoilt : PySem.W.keepIn K (.ref f__law_spoilt) = true)
    {od__law_told an__law_told : Option Addr} {sl__law_told : Array (Option Value)} {oc__law_told kV__law_told dc__law_told pm__law_told cd__law_told ct__law_told : Value}
    (a__law_told : PySem.W.nsIn K mainGlobals "_law_told" = some (some (.ref f__law_told)))
    (l__law_told : K.lookup f__law_told = some ⟨oc__law_told, od__law_told, .func (PySem.W.fnOf "_law_told" "_law_told" (defArgs s__law_told) (defBody s__law_told) (defScope s__law_told) .none kV__law_told dc__law_told pm__law_told an__law_told cd__law_told ct__law_told), sl__law_told⟩)
    (c__law_told : PySem.W.codeIn K cd__law_told "_law_told" = true)
    (k__law_told : PySem.W.keepIn K (.ref f__law_told) = true)
    {od__law_right an__law_right : Option Addr} {sl__law_right : Array (Option Value)} {oc__law_right kV__law_right dc__law_right pm__law_right cd__law_right ct__law_right : Value}
    (a__law_right : PySem.W.nsIn K mainGlobals "_law_right" = some (some (.ref f__law_right)))
    (l__law_right : K.lookup f__law_right = some ⟨oc__law_right, od__law_right, .func (PySem.W.fnOf "_law_right" "_law_right" (defArgs s__law_right) (defBody s__law_right) (defScope s__law_right) .none kV__law_right dc__law_right pm__law_right an__law_right cd__law_right ct__law_right), sl__law_right⟩)
    (c__law_right : PySem.W.codeIn K cd__law_right "_law_right" = true)
    (k__law_right : PySem.W.keepIn K (.ref f__law_right) = true)
    {od_law an_law : Option Addr} {sl_law : Array (Option Value)} {oc_law kV_law dc_law pm_law cd_law ct_law : Value}
    (a_law : PySem.W.nsIn K mainGlobals "law" = some (some (.ref f_law)))
    (l_law : K.lookup f_law = some ⟨oc_law, od_law, .func (PySem.W.fnOf "law" "law" (defArgs s_law) (defBody s_law) (defScope s_law) .none kV_law dc_law pm_law an_law cd_law ct_law), sl_law⟩)
    (c_law : PySem.W.codeIn K cd_law "law" = true)
    (k_law : PySem.W.keepIn K (.ref f_law) = true)
    (aC_C : PySem.W.nsIn K mainGlobals "Form" = some (some (.ref C)))
    (pg_C : PySem.W.plainGet K C Str.empty = true)
    (hd_C : PySem.W.hasDictIn K C = true)
    (po_C : PySem.W.plainOver K C = true)
    (sa_C : PySem.W.findIn K (.ref C) "__setattr__" = some (some (.builtin "object.__setattr__")))
    (mk_C : PySem.W.makesIn K C = true)
    (kc_C : PySem.W.keepIn K (.ref C) = true)
    (n_C_width : PySem.W.findIn K (.ref C) "width" = some none)
    (n_C_point : PySem.W.findIn K (.ref C) "point" = some none)
    (n_C_manner : PySem.W.findIn K (.ref C) "manner" = some none)
    (n_C_ends : PySem.W.findIn K (.ref C) "ends" = some none)
    {od_Form___eq__ an_Form___eq__ : Option Addr} {sl_Form___eq__ : Array (Option Value)} {oc_Form___eq__ kV_Form___eq__ dc_Form___eq__ pm_Form___eq__ cd_Form___eq__ ct_Form___eq__ : Value}
    (a_Form___eq__ : PySem.W.findIn K (.ref C) "__eq__" = some (some (.ref f_Form___eq__)))
    (i_Form___eq__ : PySem.W.isFn K (.ref f_Form___eq__) = true)
    (l_Form___eq__ : K.lookup f_Form___eq__ = some ⟨oc_Form___eq__, od_Form___eq__, .func (PySem.W.fnOf "__eq__" "Form.__eq__" (defArgs s_Form___eq__) (defBody s_Form___eq__) (defScope s_Form___eq__) .none kV_Form___eq__ dc_Form___eq__ pm_Form___eq__ an_Form___eq__ cd_Form___eq__ ct_Form___eq__), sl_Form___eq__⟩)
    (c_Form___eq__ : PySem.W.codeIn K cd_Form___eq__ "Form.__eq__" = true)
    (k_Form___eq__ : PySem.W.keepIn K (.ref f_Form___eq__) = true)
    {od_Form___str__ an_Form___str__ : Option Addr} {sl_Form___str__ : Array (Option Value)} {oc_Form___str__ kV_Form___str__ dc_Form___str__ pm_Form___str__ cd_Form___str__ ct_Form___str__ : Value}
    (a_Form___str__ : PySem.W.findIn K (.ref C) "__str__" = some (some (.ref f_Form___str__)))
    (i_Form___str__ : PySem.W.isFn K (.ref f_Form___str__) = true)
    (l_Form___str__ : K.lookup f_Form___str__ = some ⟨oc_Form___str__, od_Form___str__, .func (PySem.W.fnOf "__str__" "Form.__str__" (defArgs s_Form___str__) (defBody s_Form___str__) (defScope s_Form___str__) .none kV_Form___str__ dc_Form___str__ pm_Form___str__ an_Form___str__ cd_Form___str__ ct_Form___str__), sl_Form___str__⟩)
    (c_Form___str__ : PySem.W.codeIn K cd_Form___str__ "Form.__str__" = true)
    (k_Form___str__ : PySem.W.keepIn K (.ref f_Form___str__) = true)
    {od_Form___init__ an_Form___init__ : Option Addr} {sl_Form___init__ : Array (Option Value)} {oc_Form___init__ kV_Form___init__ dc_Form___init__ pm_Form___init__ cd_Form___init__ ct_Form___init__ : Value}
    {to_Form___init__ : Value} {td_Form___init__ : Option Addr} {tn_Form___init__ : Nat} {ts_Form___init__ : Array (Option Value)} {tk_Form___init___1 : Tok} {tk_Form___init___2 : Tok} {tk_Form___init___3 : Tok}
    (a_Form___init__ : PySem.W.findIn K (.ref C) "__init__" = some (some (.ref f_Form___init__)))
    (i_Form___init__ : PySem.W.isFn K (.ref f_Form___init__) = true)
    (l_Form___init__ : K.lookup f_Form___init__ = some ⟨oc_Form___init__, od_Form___init__, .func (PySem.W.fnOf "__init__" "Form.__init__" (defArgs s_Form___init__) (defBody s_Form___init__) (defScope s_Form___init__) (.ref T_Form___init__) kV_Form___init__ dc_Form___init__ pm_Form___init__ an_Form___init__ cd_Form___init__ ct_Form___init__), sl_Form___init__⟩)
    (c_Form___init__ : PySem.W.codeIn K cd_Form___init__ "Form.__init__" = true)
    (k_Form___init__ : PySem.W.keepIn K (.ref f_Form___init__) = true)
    (t_Form___init__ : K.lookup T_Form___init__ = some ⟨to_Form___init__, td_Form___init__, .seq [Value.none, Value.int 0 tk_Form___init___1, Value.str "half" tk_Form___init___2, Value.str "wrap" tk_Form___init___3].toArray tn_Form___init__, ts_Form___init__⟩)
    {tk_LEAST_WIDTH : Tok}
    (g_LEAST_WIDTH : PySem.W.nsIn K mainGlobals "LEAST_WIDTH" = some (some (.int 2 tk_LEAST_WIDTH)))
    {tk_GREATEST_WIDTH : Tok}
    (g_GREATEST_WIDTH : PySem.W.nsIn K mainGlobals "GREATEST_WIDTH" = some (some (.int 64 tk_GREATEST_WIDTH)))
    {tk_GREATEST_POINT : Tok}
    (g_GREATEST_POINT : PySem.W.nsIn K mainGlobals "GREATEST_POINT" = some (some (.int 64 tk_GREATEST_POINT)))
    {tk_FIGURES : Tok}
    (g_FIGURES : PySem.W.nsIn K mainGlobals "FIGURES" = some (some (.str "0123456789" tk_FIGURES)))
    {tk_MOST_FIGURES : Tok}
    (g_MOST_FIGURES : PySem.W.nsIn K mainGlobals "MOST_FIGURES" = some (some (.int 400 tk_MOST_FIGURES)))
    {tk_FREE : Tok}
    (g_FREE : PySem.W.nsIn K mainGlobals "FREE" = some (some (.str "free" tk_FREE)))
    {tt_ENDS : Option Addr} {tn_ENDS : Nat} {ts_ENDS : Array (Option Value)} {tk_ENDS_0 : Tok} {tk_ENDS_1 : Tok}
    (g_ENDS : PySem.W.nsIn K mainGlobals "ENDS" = some (some (.ref A_ENDS)))
    (t_ENDS : K.lookup A_ENDS = some ⟨.type "tuple", tt_ENDS, .seq [Value.str "wrap" tk_ENDS_0, Value.str "stop" tk_ENDS_1].toArray tn_ENDS, ts_ENDS⟩)
    {es_MANNERS : Array DictEntry} {dn_MANNERS : Nat}
    (g_MANNERS : PySem.W.nsIn K mainGlobals "MANNERS" = some (some (.ref A_MANNERS)))
    (t_MANNERS : K.lookup A_MANNERS = some ⟨.type "dict", none, .dict es_MANNERS dn_MANNERS, #[]⟩)
    (y_MANNERS : PySem.W.KeysLit w.params es_MANNERS.toList)
    (w_MANNERS : (A_MANNERS == sysModules) = false)
    (d_MANNERS_down : PySem.W.nsIn K A_MANNERS "down" = some (some (.ref f_downward)))
    (d_MANNERS_up : PySem.W.nsIn K A_MANNERS "up" = some (some (.ref f_upward)))
    (d_MANNERS_in : PySem.W.nsIn K A_MANNERS "in" = some (some (.ref f_inward)))
    (d_MANNERS_out : PySem.W.nsIn K A_MANNERS "out" = some (some (.ref f_outward)))
    (d_MANNERS_half : PySem.W.nsIn K A_MANNERS "half" = some (some (.ref f_nearest_greater)))
    (d_MANNERS_even : PySem.W.nsIn K A_MANNERS "even" = some (some (.ref f_nearest_even)))
    (d_MANNERS_far : PySem.W.nsIn K A_MANNERS "far" = some (some (.ref f_nearest_far)))
    (ky_MANNERS : keysIn es_MANNERS.toList ["down", "up", "in", "out", "half", "even", "far"] = true)
    (fx_ha : PySem.W.findIn K (.ref C) "__class__" = some (some (.builtin "object.__class__")))
    (fx_hn : PySem.W.specialIn K (.builtin "object.__class__") "__get__" = some (some (.builtin "getset_descriptor.__get__")))
    (fx_ht : PySem.W.takesIn K (.builtin "object.__class__") = some true)
    (fx_hm : PySem.W.mroIn K C (.type "object") = some true)
    (fx_kC : PySem.W.kitOne K (.ref C) (.ref C) = some true)
    (fx_kI : PySem.W.kitOne K (.ref C) (.type "str") = some false)
    (fx_kS : PySem.W.kitOne K (.type "str") (.ref C) = some false)
    (fx_kL : PySem.W.kitOne K (.type "list") (.ref C) = some false)
    (fx_kT : PySem.W.kitOne K (.type "tuple") (.ref C) = some false)
    (fx_kN : PySem.W.kitOne K (.type "NoneType") (.ref C) = some false)
    (fx_nS : PySem.W.notFirst K C (.type "str") = true)
    (fx_nL : PySem.W.notFirst K C (.type "list") = true)
    (fx_nT : PySem.W.notFirst K C (.type "tuple") = true)
    (fx_nN : PySem.W.notFirst K C (.type "NoneType") = true)
    (aC_CE : PySem.W.nsIn K mainGlobals "EchoError" = some (some (.ref CE)))
    (aC_CW : PySem.W.nsIn K mainGlobals "BadNet" = some (some (.ref CW)))
    (aC_CU : PySem.W.nsIn K mainGlobals "Unfit" = some (some (.ref CU)))
    (aC_CB : PySem.W.nsIn K mainGlobals "BadForm" = some (some (.ref CB)))
    (ei_CB : PySem.W.excInitIn K CB PySem.ErrX.bmA "ArithmeticError.__new__" = true)
    (eo_CB : PySem.W.excOver K CB PySem.ErrX.bmA = true)
    (sa_CB : PySem.W.findIn K (.ref CB) "__setattr__" = some (some (.builtin "object.__setattr__")))
    (ga_CB : PySem.W.findIn K (.ref CB) "__getattribute__" = some (some (.builtin "BaseException.__getattribute__")))
    (gg_CB : PySem.W.findIn K (.ref CB) "__getattr__" = some none)
    (kC_CB : PySem.W.keepIn K (.ref CB) = true)
    (ex_CB : PySem.W.subIn K (.ref CB) (.type "BaseException") = some true)
    (ty_CB : PySem.W.typeIn K (.ref CB) = some (.type "type"))
    (hd_CB : PySem.W.hasDictIn K CB = true)
    (ha_CB : PySem.W.findIn K (.ref CB) "__class__" = some (some (.builtin "object.__class__")))
    (hn_CB : PySem.W.specialIn K (.builtin "object.__class__") "__get__" = some (some (.builtin "getset_descriptor.__get__")))
    (ht_CB : PySem.W.takesIn K (.builtin "object.__class__") = some true)
    (hm_CB : PySem.W.mroIn K CB (.type "object") = some true)
    (iC_CB : PySem.W.findIn K (.ref CB) "__init__" = some (some (.ref fI_CB)))
    (tC_CB : PySem.W.typeIn K (.ref fI_CB) = some (.type "function"))
    {od_CB an_CB cdd_CB cld_CB : Option Addr} {sl_CB ccs_CB csl_CB : Array (Option Value)} {oc_CB kV_CB dc_CB pm_CB ct_CB ccl_CB cl_CB : Value} {vs_CB : Array Value} {file_CB : Str} {tf_CB : Tok}
    (l_CB : K.lookup fI_CB = some ⟨oc_CB, od_CB, .func (PySem.W.ksFn "__init__" "BadForm.__init__" (defArgs s_BadForm___init__) (defBody s_BadForm___init__) (defScope s_BadForm___init__) .none kV_CB dc_CB pm_CB an_CB (.ref cda_CB) ct_CB cc_CB), sl_CB⟩)
    (cd_CB : PySem.W.codeIn K (.ref cda_CB) "BadForm.__init__" = true)
    (lc_CB : K.lookup cda_CB = some ⟨ccl_CB, cdd_CB, .fields vs_CB, ccs_CB⟩)
    (v2_CB : vs_CB[2]? = some (.str file_CB tf_CB))
    (fl_CB : ((l.prog.main.file : Str) == file_CB) = true)
    (ce_CB : K.lookup cc_CB = some ⟨cl_CB, cld_CB, .cell (some (.ref CB)), csl_CB⟩)
    (nf_CB : PySem.W.findIn K (.ref CB) "part" = some none)
    (su_CB : PySem.W.ks_superIn K CB CB "__init__" = some (some (.builtin "ArithmeticError.__init__")))
    (sA_CB : PySem.W.subIn K (.ref CB) (.type "ArithmeticError") = some true)
    (sf_CB : PySem.W.mroIn K CB (.ref CB) = some true)
    (th_CB : PySem.W.nsIn K cStatics "thirdparty.any" = some none)
    (ms_CB : PySem.W.nsIn K mainGlobals "super" = some none)
    (tp_CB : (l.prog.main.scope.names.lookup ("super" : Str)).isSome = false)
    (aC_CT : PySem.W.nsIn K mainGlobals "NoText" = some (some (.ref CT)))
    (ei_CT : PySem.W.excInitIn K CT PySem.ErrX.bmA "ArithmeticError.__new__" = true)
    (eo_CT : PySem.W.excOver K CT PySem.ErrX.bmA = true)
    (sa_CT : PySem.W.findIn K (.ref CT) "__setattr__" = some (some (.builtin "object.__setattr__")))
    (ga_CT : PySem.W.findIn K (.ref CT) "__getattribute__" = some (some (.builtin "BaseException.__getattribute__")))
    (gg_CT : PySem.W.findIn K (.ref CT) "__getattr__" = some none)
    (kC_CT : PySem.W.keepIn K (.ref CT) = true)
    (ex_CT : PySem.W.subIn K (.ref CT) (.type "BaseException") = some true)
    (ty_CT : PySem.W.typeIn K (.ref CT) = some (.type "type"))
    (hd_CT : PySem.W.hasDictIn K CT = true)
    (ha_CT : PySem.W.findIn K (.ref CT) "__class__" = some (some (.builtin "object.__class__")))
    (hn_CT : PySem.W.specialIn K (.builtin "object.__class__") "__get__" = some (some (.builtin "getset_descriptor.__get__")))
    (ht_CT : PySem.W.takesIn K (.builtin "object.__class__") = some true)
    (hm_CT : PySem.W.mroIn K CT (.type "object") = some true)
    (iC_CT : PySem.W.findIn K (.ref CT) "__init__" = some (some (.ref fI_CT)))
    (tC_CT : PySem.W.typeIn K (.ref fI_CT) = some (.type "function"))
    {od_CT an_CT cdd_CT cld_CT : Option Addr} {sl_CT ccs_CT csl_CT : Array (Option Value)} {oc_CT kV_CT dc_CT pm_CT ct_CT ccl_CT cl_CT : Value} {vs_CT : Array Value} {file_CT : Str} {tf_CT : Tok}
    (l_CT : K.lookup fI_CT = some ⟨oc_CT, od_CT, .func (PySem.W.ksFn "__init__" "NoText.__init__" (defArgs s_NoText___init__) (defBody s_NoText___init__) (defScope s_NoText___init__) (.ref T_CT) kV_CT dc_CT pm_CT an_CT (.ref cda_CT) ct_CT cc_CT), sl_CT⟩)
    (cd_CT : PySem.W.codeIn K (.ref cda_CT) "NoText.__init__" = true)
    (lc_CT : K.lookup cda_CT = some ⟨ccl_CT, cdd_CT, .fields vs_CT, ccs_CT⟩)
    (v2_CT : vs_CT[2]? = some (.str file_CT tf_CT))
    (fl_CT : ((l.prog.main.file : Str) == file_CT) = true)
    (ce_CT : K.lookup cc_CT = some ⟨cl_CT, cld_CT, .cell (some (.ref CT)), csl_CT⟩)
    (nf_CT : PySem.W.findIn K (.ref CT) "line" = some none)
    (su_CT : PySem.W.ks_superIn K CT CT "__init__" = some (some (.builtin "ArithmeticError.__init__")))
    (sA_CT : PySem.W.subIn K (.ref CT) (.type "ArithmeticError") = some true)
    (sf_CT : PySem.W.mroIn K CT (.ref CT) = some true)
    (th_CT : PySem.W.nsIn K cStatics "thirdparty.any" = some none)
    (ms_CT : PySem.W.nsIn K mainGlobals "super" = some none)
    (tp_CT : (l.prog.main.scope.names.lookup ("super" : Str)).isSome = false)
    {to_CT : Value} {td_CT : Option Addr} {its_CT : Array Value} {tn_CT : Nat} {ts_CT : Array (Option Value)}
    (t_CT : K.lookup T_CT = some ⟨to_CT, td_CT, .seq its_CT tn_CT, ts_CT⟩)
    (z_CT : its_CT.size = 1)
    (xm_CT : PySem.W.exmOne K (.ref CT) (.ref CE) = some true)
    (xm_CB : PySem.W.exmOne K (.ref CB) (.ref CB) = some true)
    (ki_CT_T : PySem.W.kitOne K (.ref CT) (.ref CT) = some true)
    (ki_CT_B : PySem.W.kitOne K (.ref CT) (.ref CB) = some false)
    (ki_CT_W : PySem.W.kitOne K (.ref CT) (.ref CW) = some false)
    (ki_CT_U : PySem.W.kitOne K (.ref CT) (.ref CU) = some false)
    (z_isinstance : PySem.W.nsIn K mainGlobals "isinstance" = some none)
    (z_int : PySem.W.nsIn K mainGlobals "int" = some none)
    (z_bool : PySem.W.nsIn K mainGlobals "bool" = some none)
    (z_str : PySem.W.nsIn K mainGlobals "str" = some none)
    (z_abs : PySem.W.nsIn K mainGlobals "abs" = some none)
    (z_len : PySem.W.nsIn K mainGlobals "len" = some none)
    (z_all : PySem.W.nsIn K mainGlobals "all" = some none)
    (z_range : PySem.W.nsIn K mainGlobals "range" = some none) :
    ∃ fd : FuncData, (∀ (s : Shared) (v : Value), BindsTo s fd ⟨[v], []⟩ [("_law_script", v)]) ∧ ∀ base : Heap, K.In base → base.Ns mainGlobals mg → FnOk l.prog w K mg base CX0 9 fa fd ["_law_script"] (spLaw K) := by
  have F_is_whole := fun_mk (st := s_is_whole) l_is_whole c_is_whole k_is_whole
  have b_is_whole := F_is_whole.binds (ps := ["thing"]) fun _ _ _ _ _ _ us hl => match us, hl with | [_], _ => rfl
  have F_downward := fun_mk (st := s_downward) l_downward c_downward k_downward
  have b_downward := F_downward.binds (ps := ["top", "bottom"]) fun _ _ _ _ _ _ us hl => match us, hl with | [_, _], _ => rfl
  have F_upward := fun_mk (st := s_upward) l_upward c_upward k_upward
  have b_upward := F_upward.binds (ps := ["top", "bottom"]) fun _ _ _ _ _ _ us hl => match us, hl with | [_, _], _ => rfl
  have F_inward := fun_mk (st := s_inward) l_inward c_inward k_inward
  have b_inward := F_inward.binds (ps := ["top", "bottom"]) fun _ _ _ _ _ _ us hl => match us, hl with | [_, _], _ => rfl
  have F_outward := fun_mk (st := s_outward) l_outward c_outward k_outward
  have b_outward := F_outward.binds (ps := ["top", "bottom"]) fun _ _ _ _ _ _ us hl => match us, hl with | [_, _], _ => rfl
  have F_nearest_greater := fun_mk (st := s_nearest_greater) l_nearest_greater c_nearest_greater k_nearest_greater
  have b_nearest_greater := F_nearest_greater.binds (ps := ["top", "bottom"]) fun _ _ _ _ _ _ us hl => match us, hl with | [_, _], _ => rfl
  have F_nearest_even := fun_mk (st := s_nearest_even) l_nearest_even c_nearest_even k_nearest_even
  have b_nearest_even := F_nearest_even.binds (ps := ["top", "bottom"]) fun _ _ _ _ _ _ us hl => match us, hl with | [_, _], _ => rfl
  have F_nearest_far := fun_mk (st := s_nearest_far) l_nearest_far c_nearest_far k_nearest_far
  have b_nearest_far := F_nearest_far.binds (ps := ["top", "bottom"]) fun _ _ _ _ _ _ us hl => match us, hl with | [_, _], _ => rfl
  have F_is_manner := fun_mk (st := s_is_manner) l_is_manner c_is_manner k_is_manner
  have b_is_manner := F_is_manner.binds (ps := ["thing"]) fun _ _ _ _ _ _ us hl => match us, hl with | [_], _ => rfl
  have F_is_width := fun_mk (st := s_is_width) l_is_width c_is_width k_is_width
  have b_is_width := F_is_width.binds (ps := ["thing"]) fun _ _ _ _ _ _ us hl => match us, hl with | [_], _ => rfl
  have F_is_point := fun_mk (st := s_is_point) l_is_point c_is_point k_is_point
  have b_is_point := F_is_point.binds (ps := ["thing"]) fun _ _ _ _ _ _ us hl => match us, hl with | [_], _ => rfl
  have F_is_ends := fun_mk (st := s_is_ends) l_is_ends c_is_ends k_is_ends
  have b_is_ends := F_is_ends.binds (ps := ["thing"]) fun _ _ _ _ _ _ us hl => match us, hl with | [_], _ => rfl
  have F_whole_of := fun_mk (st := s_whole_of) l_whole_of c_whole_of k_whole_of
  have b_whole_of := F_whole_of.binds (ps := ["text"]) fun _ _ _ _ _ _ us hl => match us, hl with | [_], _ => rfl
  have F_show_form := fun_mk (st := s_show_form) l_show_form c_show_form k_show_form
  have b_show_form := F_show_form.binds (ps := ["form"]) fun _ _ _ _ _ _ us hl => match us, hl with | [_], _ => rfl
  have F_check_text := fun_mk (st := s_check_text) l_check_text c_check_text k_check_text
  have b_check_text := F_check_text.binds (ps := ["thing"]) fun _ _ _ _ _ _ us hl => match us, hl with | [_], _ => rfl
  have F_form_of := fun_mk (st := s_form_of) l_form_of c_form_of k_form_of
  have b_form_of := F_form_of.binds (ps := ["text"]) fun _ _ _ _ _ _ us hl => match us, hl with | [_], _ => rfl
  have F_read_form := fun_mk (st := s_read_form) l_read_form c_read_form k_read_form
  have b_read_form := F_read_form.binds (ps := ["text"]) fun _ _ _ _ _ _ us hl => match us, hl with | [_], _ => rfl
  have F__law_cell_at := fun_mk (st := s__law_cell_at) l__law_cell_at c__law_cell_at k__law_cell_at
  have b__law_cell_at := F__law_cell_at.binds (ps := ["_law_script", "_law_k"]) fun _ _ _ _ _ _ us hl => match us, hl with | [_, _], _ => rfl
  have F__law_well := fun_mk (st := s__law_well) l__law_well c__law_well k__law_well
  have b__law_well := F__law_well.binds (ps := ["_law_cell"]) fun _ _ _ _ _ _ us hl => match us, hl with | [_], _ => rfl
  have F__law_draw := fun_mk (st := s__law_draw) l__law_draw c__law_draw k__law_draw
  have b__law_draw := F__law_draw.binds (ps := ["_law_well_here", "_law_many"]) fun _ _ _ _ _ _ us hl => match us, hl with | [_, _], _ => rfl
  have F__law_parts := fun_mk (st := s__law_parts) l__law_parts c__law_parts k__law_parts
  have b__law_parts := F__law_parts.binds (ps := ["_law_well_here"]) fun _ _ _ _ _ _ us hl => match us, hl with | [_], _ => rfl
  have F__law_text := fun_mk (st := s__law_text) l__law_text c__law_text k__law_text
  have b__law_text := F__law_text.binds (ps := ["_law_parts_here"]) fun _ _ _ _ _ _ us hl => match us, hl with | [_], _ => rfl
  have F__law_number := fun_mk (st := s__law_number) l__law_number c__law_number k__law_number
  have b__law_number := F__law_number.binds (ps := ["_law_word", "_law_low", "_law_high"]) fun _ _ _ _ _ _ us hl => match us, hl with | [_, _, _], _ => rfl
  have F__law_read := fun_mk (st := s__law_read) l__law_read c__law_read k__law_read
  have b__law_read := F__law_read.binds (ps := ["_law_line_text"]) fun _ _ _ _ _ _ us hl => match us, hl with | [_], _ => rfl
  have F__law_spoilt := fun_mk (st := s__law_spoilt) l__law_spoilt c__law_spoilt k__law_spoilt
  have b__law_spoilt := F__law_spoilt.binds (ps := ["_law_line_text", "_law_well_here"]) fun _ _ _ _ _ _ us hl => match us, hl with | [_, _], _ => rfl
  have F__law_told := fun_mk (st := s__law_told) l__law_told c__law_told k__law_told
  have b__law_told := F__law_told.binds (ps := ["_law_line_text"]) fun _ _ _ _ _ _ us hl => match us, hl with | [_], _ => rfl
  have F__law_right := fun_mk (st := s__law_right) l__law_right c__law_right k__law_right
  have b__law_right := F__law_right.binds (ps := ["_law_line_text"]) fun _ _ _ _ _ _ us hl => match us, hl with | [_], _ => rfl
  have F_law := fun_mk (st := s_law) l_law c_law k_law
  have b_law := F_law.binds (ps := ["_law_script"]) fun _ _ _ _ _ _ us hl => match us, hl with | [_], _ => rfl
  have F_Form___eq__ := fun_mk (st := s_Form___eq__) l_Form___eq__ c_Form___eq__ k_Form___eq__
  have b_Form___eq__ := F_Form___eq__.binds (ps := ["self", "other"]) fun _ _ _ _ _ _ us hl => match us, hl with | [_, _], _ => rfl
  have F_Form___str__ := fun_mk (st := s_Form___str__) l_Form___str__ c_Form___str__ k_Form___str__
  have b_Form___str__ := F_Form___str__.binds (ps := ["self"]) fun _ _ _ _ _ _ us hl => match us, hl with | [_], _ => rfl
  have F_Form___init__ : FunD K "__init__" "Form.__init__" (defArgs s_Form___init__) (defBody s_Form___init__) (defScope s_Form___init__) [V.non, V.int 0, V.str "half", V.str "wrap"] [] f_Form___init__ _ := ⟨⟨_, _, _, _, _, _, _, _, _, _, rfl, l_Form___init__, c_Form___init__, .inr ⟨by simp, T_Form___init__, _, [Value.none, Value.int 0 tk_Form___init___1, Value.str "half" tk_Form___init___2, Value.str "wrap" tk_Form___init___3], _, rfl, t_Form___init__, rfl, (.cons rfl (.cons ⟨_, rfl⟩ (.cons ⟨_, rfl⟩ (.cons ⟨_, rfl⟩ .nil))))⟩, .inl rfl⟩, k_Form___init__⟩
  obtain ⟨ds_Form4, dv_Form4, b_Form4⟩ := F_Form___init__.binds1 (ps := ["self", "width", "point", "manner", "ends"]) 5 4 (by simp) rfl fun _ _ _ _ _ _ _ us its h1 h2 => match us, its, h1, h2 with | [_, _, _, _, _], [_, _, _, _], _, _ => ⟨_, rfl, rfl⟩
  cases dv_Form4
  have kb_show_form := Fun.kbn (n := 0) (ks := ["form"]) (ps := ["form"]) F_show_form (g := fun us ws => us ++ ws) (gV := fun vs zs => vs ++ zs) (fun r s => Vals.append r s) fun _ _ _ _ _ _ us ws h1 h2 => match us, ws, h1, h2 with | [], [_], _, _ => rfl
  have kb_read_form := Fun.kbn (n := 0) (ks := ["text"]) (ps := ["text"]) F_read_form (g := fun us ws => us ++ ws) (gV := fun vs zs => vs ++ zs) (fun r s => Vals.append r s) fun _ _ _ _ _ _ us ws h1 h2 => match us, ws, h1, h2 with | [], [_], _, _ => rfl
  have T_ENDS : ∀ H, SqT K H A_ENDS [V.str "wrap", V.str "stop"] := fun H => .inr ⟨_, _, _, t_ENDS, rfl, rfl, (by show 2 ≤ sizeLine; decide), (.cons ⟨_, rfl⟩ (.cons ⟨_, rfl⟩ .nil))⟩
  have EC_CB : PySem.ErrX.ErrC K mg "BadForm" CB := ⟨PySem.W.mg_of X G aC_CB, ei_CB, eo_CB, sa_CB, ga_CB, gg_CB, kC_CB, ex_CB, ty_CB, hd_CB⟩
  have IC_CB : PySem.ErrX.IniC l.prog K mg CB fI_CB cc_CB "BadForm.__init__" "part" s_BadForm___init__ .none := ⟨iC_CB, tC_CB, ⟨_, _, _, _, _, _, _, _, _, l_CB, cd_CB, _, _, _, _, _, _, lc_CB, v2_CB, fl_CB⟩, ⟨_, _, _, ce_CB⟩, nf_CB, su_CB, sA_CB, sf_CB, th_CB, PySem.W.mg_none_of X G ms_CB, tp_CB⟩
  have XC_CB : ExcC K CB := ⟨ga_CB, gg_CB, ex_CB, hd_CB, ha_CB, hn_CB, ht_CB, hm_CB⟩
  have EC_CT : PySem.ErrX.ErrC K mg "NoText" CT := ⟨PySem.W.mg_of X G aC_CT, ei_CT, eo_CT, sa_CT, ga_CT, gg_CT, kC_CT, ex_CT, ty_CT, hd_CT⟩
  have IC_CT : PySem.ErrX.IniC l.prog K mg CT fI_CT cc_CT "NoText.__init__" "line" s_NoText___init__ (.ref T_CT) := ⟨iC_CT, tC_CT, ⟨_, _, _, _, _, _, _, _, _, l_CT, cd_CT, _, _, _, _, _, _, lc_CT, v2_CT, fl_CT⟩, ⟨_, _, _, ce_CT⟩, nf_CT, su_CT, sA_CT, sf_CT, th_CT, PySem.W.mg_none_of X G ms_CT, tp_CT⟩
  have XC_CT : ExcC K CT := ⟨ga_CT, gg_CT, ex_CT, hd_CT, ha_CT, hn_CT, ht_CT, hm_CT⟩
  have z : Zs mg := ⟨PySem.W.mg_none_of X G z_isinstance, PySem.W.mg_none_of X G z_int, PySem.W.mg_none_of X G z_bool, PySem.W.mg_none_of X G z_str, PySem.W.mg_none_of X G z_abs, PySem.W.mg_none_of X G z_len, PySem.W.mg_none_of X G z_all, PySem.W.mg_none_of X G z_range⟩
  have e := hfa.symm.trans (PySem.W.mg_of X G a_law)
  cases e
  refine ⟨PySem.W.fnOf "law" "law" (defArgs s_law) (defBody s_law) (defScope s_law) .none kV_law dc_law pm_law an_law cd_law ct_law, fun s v => .of_eq rfl, fun base _ _ => ?_⟩
  have c_is_whole : Cal l.prog w K mg base 1 "is_whole" ["thing"] _ := ⟨f_is_whole, _, PySem.W.mg_of X G a_is_whole, k_is_whole, b_is_whole, ok_is_whole (k := 0) F_is_whole z⟩
  have c_downward : Cal l.prog w K mg base 1 "downward" ["top", "bottom"] _ := ⟨f_downward, _, PySem.W.mg_of X G a_downward, k_downward, b_downward, ok_downward (k := 0) F_downward⟩
  have c_upward : Cal l.prog w K mg base 1 "upward" ["top", "bottom"] _ := ⟨f_upward, _, PySem.W.mg_of X G a_upward, k_upward, b_upward, ok_upward (k := 0) F_upward⟩
  have c_nearest_greater : Cal l.prog w K mg base 1 "nearest_greater" ["top", "bottom"] _ := ⟨f_nearest_greater, _, PySem.W.mg_of X G a_nearest_greater, k_nearest_greater, b_nearest_greater, ok_nearest_greater (k := 0) F_nearest_greater⟩
  have MM : Mans l.prog w K mg base A_MANNERS es_MANNERS dn_MANNERS := ⟨PySem.W.mg_of X G g_MANNERS, ⟨t_MANNERS, y_MANNERS, w_MANNERS⟩, fun m => match m with
    | .down => ⟨f_downward, _, d_MANNERS_down, k_downward, b_downward, ok_downward (k := 1) F_downward⟩
    | .up => ⟨f_upward, _, d_MANNERS_up, k_upward, b_upward, ok_upward (k := 1) F_upward⟩
    | .inn => ⟨f_inward, _, d_MANNERS_in, k_inward, b_inward, ok_inward F_inward c_downward c_upward⟩
    | .out => ⟨f_outward, _, d_MANNERS_out, k_outward, b_outward, ok_outward F_outward c_downward c_upward⟩
    | .half => ⟨f_nearest_greater, _, d_MANNERS_half, k_nearest_greater, b_nearest_greater, ok_nearest_greater (k := 1) F_nearest_greater⟩
    | .even => ⟨f_nearest_even, _, d_MANNERS_even, k_nearest_even, b_nearest_even, ok_nearest_even F_nearest_even c_nearest_greater⟩
    | .far => ⟨f_nearest_far, _, d_MANNERS_far, k_nearest_far, b_nearest_far, ok_nearest_far F_nearest_far c_nearest_greater⟩⟩
  have c_is_manner : Cal l.prog w K mg base 1 "is_manner" ["thing"] _ := ⟨f_is_manner, _, PySem.W.mg_of X G a_is_manner, k_is_manner, b_is_manner, ok_is_manner (k := 0) MM F_is_manner z⟩
  have Z : FCst2 K mg A_ENDS := ⟨⟨_, PySem.W.mg_of X G g_LEAST_WIDTH⟩, ⟨_, PySem.W.mg_of X G g_GREATEST_WIDTH⟩, ⟨_, PySem.W.mg_of X G g_GREATEST_POINT⟩, PySem.W.mg_of X G g_ENDS, T_ENDS⟩
  have c_is_width : Cal l.prog w K mg base 2 "is_width" ["thing"] _ := ⟨f_is_width, _, PySem.W.mg_of X G a_is_width, k_is_width, b_is_width, ok_is_width Z F_is_width c_is_whole⟩
  have c_is_point : Cal l.prog w K mg base 2 "is_point" ["thing"] _ := ⟨f_is_point, _, PySem.W.mg_of X G a_is_point, k_is_point, b_is_point, ok_is_point Z F_is_point z c_is_whole⟩
  have c_is_ends : Cal l.prog w K mg base 1 "is_ends" ["thing"] _ := ⟨f_is_ends, _, PySem.W.mg_of X G a_is_ends, k_is_ends, b_is_ends, ok_is_ends (k := 0) Z F_is_ends z⟩
  have T : FTxt K mg C := ⟨⟨pg_C, hd_C, po_C, sa_C⟩, n_C_width, n_C_point, n_C_manner, n_C_ends⟩
  have XF : FX K mg C := ⟨PySem.W.mg_of X G aC_C, fx_ha, fx_hn, fx_ht, fx_hm, fx_kC, fx_kI, fx_kS, fx_kL, fx_kT, fx_kN, fx_nS, fx_nL, fx_nT, fx_nN⟩
  have NM : NoMan K A_MANNERS := fun y hy => nsIn_none t_MANNERS ky_MANNERS (fun u hu => by
    simp only [List.mem_cons, List.not_mem_nil, or_false] at hu
    rcases hu with rfl | rfl | rfl | rfl | rfl | rfl | rfl
    · exact hy .down
    · exact hy .up
    · exact hy .inn
    · exact hy .out
    · exact hy .half
    · exact hy .even
    · exact hy .far)
  have okF := ok_Form___init__ (base := base) (P := l.prog) (w := w) T EC_CB (bad_ini EC_CB IC_CB) F_Form___init__ c_is_width c_is_point c_is_manner c_is_ends
  have c_Form : CalCX l.prog w K mg base 3 "Form" C ["self", "width", "point", "manner", "ends"] [] _ := ⟨f_Form___init__, _, _, ⟨mk_C, a_Form___init__, i_Form___init__, kc_C⟩, PySem.W.mg_of X G aC_C, .nil, b_Form4, okF⟩
  have okS := ok_Form___str__ (P := l.prog) (w := w) (base := base) (mg := mg) (k := 0) T F_Form___str__
  have okE := ok_Form___eq__ (P := l.prog) (w := w) (base := base) (k := 0) T XF F_Form___eq__ z
  have MS : OwnM K C "__str__" f_Form___str__ := ⟨a_Form___str__, i_Form___str__⟩
  have ME : OwnM K C "__eq__" f_Form___eq__ := ⟨a_Form___eq__, i_Form___eq__⟩
  have IO := notext_ini (w := w) t_CT z_CT EC_CT IC_CT
  have c_whole_of : Cal l.prog w K mg base 1 "whole_of" ["text"] _ := ⟨f_whole_of, _, PySem.W.mg_of X G a_whole_of, k_whole_of, b_whole_of, ok_whole_of (k := 0) F_whole_of z (PySem.W.mg_of X G g_FIGURES) (PySem.W.mg_of X G g_MOST_FIGURES)⟩
  have c_show_form : Cal l.prog w K mg base 4 "show_form" ["form"] _ := ⟨f_show_form, _, PySem.W.mg_of X G a_show_form, k_show_form, b_show_form, ok_show_form okS b_Form___str__ MS F_show_form z⟩
  have c_form_of : Cal l.prog w K mg base 5 "form_of" ["text"] _ := ⟨f_form_of, _, PySem.W.mg_of X G a_form_of, k_form_of, b_form_of, ok_form_of NM (PySem.W.mg_of X G aC_CB) xm_CB (PySem.W.mg_of X G g_FREE) F_form_of z c_whole_of c_Form⟩
  have c_check_text : CalX l.prog w K mg base 1 "check_text" ["thing"] [] _ := ⟨f_check_text, _, _, PySem.W.mg_of X G a_check_text, k_check_text, .nil, b_check_text, ok_check_text (k := 0) EC_CT IO F_check_text z⟩
  have c_read_form : CalX l.prog w K mg base 6 "read_form" ["text"] [] _ := ⟨f_read_form, _, _, PySem.W.mg_of X G a_read_form, k_read_form, .nil, b_read_form, ok_read_form EC_CT IO F_read_form z c_check_text c_form_of⟩
  have c_show_form_k : CalK l.prog w K mg base 4 "show_form" ["form"] 0 ["form"] _ _ := ⟨f_show_form, _, _, PySem.W.mg_of X G a_show_form, k_show_form, kb_show_form, ok_show_form okS b_Form___str__ MS F_show_form z⟩
  have c_read_form_k : CalXK l.prog w K mg base 6 "read_form" ["text"] 0 ["text"] _ _ := ⟨f_read_form, _, _, PySem.W.mg_of X G a_read_form, k_read_form, kb_read_form, ok_read_form EC_CT IO F_read_form z c_check_text c_form_of⟩
  have XX : Errs K mg CE CT CB CW CU := ⟨PySem.W.mg_of X G aC_CE, PySem.W.mg_of X G aC_CT, PySem.W.mg_of X G aC_CB, PySem.W.mg_of X G aC_CW, PySem.W.mg_of X G aC_CU, XC_CT, nf_CT, xm_CT, ki_CT_T, ki_CT_B, ki_CT_W, ki_CT_U⟩
  have c__law_cell_at : Cal l.prog w K mg base 1 "_law_cell_at" ["_law_script", "_law_k"] _ := ⟨f__law_cell_at, _, PySem.W.mg_of X G a__law_cell_at, k__law_cell_at, b__law_cell_at, ok_cell (k := 0) F__law_cell_at z.len⟩
  have c__law_well : Cal l.prog w K mg base 1 "_law_well" ["_law_cell"] _ := ⟨f__law_well, _, PySem.W.mg_of X G a__law_well, k__law_well, b__law_well, ok_well (k := 0) F__law_well z.int⟩
  have c__law_draw : Cal l.prog w K mg base 1 "_law_draw" ["_law_well_here", "_law_many"] _ := ⟨f__law_draw, _, PySem.W.mg_of X G a__law_draw, k__law_draw, b__law_draw, ok_draw (k := 0) F__law_draw⟩
  have c__law_parts : Cal l.prog w K mg base 2 "_law_parts" ["_law_well_here"] _ := ⟨f__law_parts, _, PySem.W.mg_of X G a__law_parts, k__law_parts, b__law_parts, ok__law_parts F__law_parts c__law_draw⟩
  have c__law_text : Cal l.prog w K mg base 1 "_law_text" ["_law_parts_here"] _ := ⟨f__law_text, _, PySem.W.mg_of X G a__law_text, k__law_text, b__law_text, ok__law_text (k := 0) F__law_text z⟩
  have c__law_number : Cal l.prog w K mg base 1 "_law_number" ["_law_word", "_law_low", "_law_high"] _ := ⟨f__law_number, _, PySem.W.mg_of X G a__law_number, k__law_number, b__law_number, ok__law_number (k := 0) F__law_number z⟩
  have c__law_read : Cal l.prog w K mg base 2 "_law_read" ["_law_line_text"] _ := ⟨f__law_read, _, PySem.W.mg_of X G a__law_read, k__law_read, b__law_read, ok__law_read F__law_read z c__law_number⟩
  have c__law_spoilt : Cal l.prog w K mg base 2 "_law_spoilt" ["_law_line_text", "_law_well_here"] _ := ⟨f__law_spoilt, _, PySem.W.mg_of X G a__law_spoilt, k__law_spoilt, b__law_spoilt, ok__law_spoilt F__law_spoilt z c__law_draw⟩
  have c__law_told : Cal l.prog w K mg base 7 "_law_told" ["_law_line_text"] _ := ⟨f__law_told, _, PySem.W.mg_of X G a__law_told, k__law_told, b__law_told, ok__law_told XX EC_CT F__law_told z c_read_form⟩
  have c__law_right : Cal l.prog w K mg base 8 "_law_right" ["_law_line_text"] _ := ⟨f__law_right, _, PySem.W.mg_of X G a__law_right, k__law_right, b__law_right, ok__law_right T XF okS b_Form___str__ MS okE b_Form___eq__ ME F__law_right z c_Form c__law_read c__law_told⟩
  exact ok_law T XF okS b_Form___str__ MS okE b_Form___eq__ ME F_law z c_Form c__law_cell_at c__law_well c__law_draw c__law_parts c__law_text c__law_spoilt c__law_told c__law_right c_show_form c_show_form_k c_read_form c_read_form_k

end E1

open PySem PySem.W PyProof.Rows
set_option maxRecDepth 100000 in
set_option maxHeartbeats 0 in
theorem PySem.Challenge.cw_echobound_k91_forms_as_texts_holds : PySem.Challenge.rw_echobound_k91_forms_as_texts.Holds := by
  w_on; o_law; k_head; (case hw => w_witness2)
  k_fill
  refine L2.walk_of (l := PySem.Challenge.rw_echobound_k91_forms_as_texts) (n := 63) (k := 9) (x := "_law_script") (CX := fun _ => L2.CX0) (sp := fun w => E1.spLaw _) rfl (by decide) rfl ⟨rfl, by decide, by decide⟩ (fun w h Y => PySem.W.kIn_of Y) ?F (fun _ _ a ns hl _ hS => ⟨a, ns, rfl, hS, hl, fun _ => rfl⟩) (fun _ _ _ _ _ h => h)
  case F =>
    intro w mg fa h KX G hmg
    refine' E1.all_mk KX G hmg ?a_is_whole ?l_is_whole ?c_is_whole ?k_is_whole ?a_downward ?l_downward ?c_downward ?k_downward ?a_upward ?l_upward ?c_upward ?k_upward ?a_inward ?l_inward ?c_inward ?k_inward ?a_outward ?l_outward ?c_outward ?k_outward ?a_nearest_greater ?l_nearest_greater ?c_nearest_greater ?k_nearest_greater ?a_nearest_even ?l_nearest_even ?c_nearest_even ?k_nearest_even ?a_nearest_far ?l_nearest_far ?c_nearest_far ?k_nearest_far ?a_is_manner ?l_is_manner ?c_is_manner ?k_is_manner ?a_is_width ?l_is_width ?c_is_width ?k_is_width ?a_is_point ?l_is_point ?c_is_point ?k_is_point ?a_is_ends ?l_is_ends ?c_is_ends ?k_is_ends ?a_whole_of ?l_whole_of ?c_whole_of ?k_whole_of ?a_show_form ?l_show_form ?c_show_form ?k_show_form ?a_check_text ?l_check_text ?c_check_text ?k_check_text ?a_form_of ?l_form_of ?c_form_of ?k_form_of ?a_read_form ?l_read_form ?c_read_form ?k_read_form ?a__law_cell_at ?l__law_cell_at ?c__law_cell_at ?k__law_cell_at ?a__law_well ?l__law_well ?c__law_well ?k__law_well ?a__law_draw ?l__law_draw ?c__law_draw ?k__law_draw ?a__law_parts ?l__law_parts ?c__law_parts ?k__law_parts ?a__law_text ?l__law_text ?c__law_text ?k__law_text ?a__law_number ?l__law_number ?c__law_number ?k__law_number ?a__law_read ?l__law_read ?c__law_read ?k__law_read ?a__law_spoilt ?l__law_spoilt ?c__law_spoilt ?k__law_spoilt ?a__law_told ?l__law_told ?c__law_told ?k__law_told ?a__law_right ?l__law_right ?c__law_right ?k__law_right ?a_law ?l_law ?c_law ?k_law ?aC_C ?pg_C ?hd_C ?po_C ?sa_C ?mk_C ?kc_C ?n_C_width ?n_C_point ?n_C_manner ?n_C_ends ?a_Form___eq__ ?i_Form___eq__ ?l_Form___eq__ ?c_Form___eq__ ?k_Form___eq__ ?a_Form___str__ ?i_Form___str__ ?l_Form___str__ ?c_Form___str__ ?k_Form___str__ ?a_Form___init__ ?i_Form___init__ ?l_Form___init__ ?c_Form___init__ ?k_Form___init__ ?t_Form___init__ ?g_LEAST_WIDTH ?g_GREATEST_WIDTH ?g_GREATEST_POINT ?g_FIGURES ?g_MOST_FIGURES ?g_FREE ?g_ENDS ?t_ENDS ?g_MANNERS ?t_MANNERS ?y_MANNERS ?w_MANNERS ?d_MANNERS_down ?d_MANNERS_up ?d_MANNERS_in ?d_MANNERS_out ?d_MANNERS_half ?d_MANNERS_even ?d_MANNERS_far ?ky_MANNERS ?fx_ha ?fx_hn ?fx_ht ?fx_hm ?fx_kC ?fx_kI ?fx_kS ?fx_kL ?fx_kT ?fx_kN ?fx_nS ?fx_nL ?fx_nT ?fx_nN ?aC_CE ?aC_CW ?aC_CU ?aC_CB ?ei_CB ?eo_CB ?sa_CB ?ga_CB ?gg_CB ?kC_CB ?ex_CB ?ty_CB ?hd_CB ?ha_CB ?hn_CB ?ht_CB ?hm_CB ?iC_CB ?tC_CB ?l_CB ?cd_CB ?lc_CB ?v2_CB ?fl_CB ?ce_CB ?nf_CB ?su_CB ?sA_CB ?sf_CB ?th_CB ?ms_CB ?tp_CB ?aC_CT ?ei_CT ?eo_CT ?sa_CT ?ga_CT ?gg_CT ?kC_CT ?ex_CT ?ty_CT ?hd_CT ?ha_CT ?hn_CT ?ht_CT ?hm_CT ?iC_CT ?tC_CT ?l_CT ?cd_CT ?lc_CT ?v2_CT ?fl_CT ?ce_CT ?nf_CT ?su_CT ?sA_CT ?sf_CT ?th_CT ?ms_CT ?tp_CT ?t_CT ?z_CT ?xm_CT ?xm_CB ?ki_CT_T ?ki_CT_B ?ki_CT_W ?ki_CT_U ?z_isinstance ?z_int ?z_bool ?z_str ?z_abs ?z_len ?z_all ?z_range
    (case a_is_whole => k_is)
    (case l_is_whole => k_is)
    (case c_is_whole => k_is)
    (case k_is_whole => k_is)
    (case a_downward => k_is)
    (case l_downward => k_is)
    (case c_downward => k_is)
    (case k_downward => k_is)
    (case a_upward => k_is)
    (case l_upward => k_is)
    (case c_upward => k_is)
    (case k_upward => k_is)
    (case a_inward => k_is)
    (case l_inward => k_is)
    (case c_inward => k_is)
    (case k_inward => k_is)
    (case a_outward => k_is)
    (case l_outward => k_is)
    (case c_outward => k_is)
    (case k_outward => k_is)
    (case a_nearest_greater => k_is)
    (case l_nearest_greater => k_is)
    (case c_nearest_greater => k_is)
    (case k_nearest_greater => k_is)
    (case a_nearest_even => k_is)
    (case l_nearest_even => k_is)
    (case c_nearest_even => k_is)
    (case k_nearest_even => k_is)
    (case a_nearest_far => k_is)
    (case l_nearest_far => k_is)
    (case c_nearest_far => k_is)
    (case k_nearest_far => k_is)
    (case a_is_manner => k_is)
    (case l_is_manner => k_is)
    (case c_is_manner => k_is)
    (case k_is_manner => k_is)
    (case a_is_width => k_is)
    (case l_is_width => k_is)
    (case c_is_width => k_is)
    (case k_is_width => k_is)
    (case a_is_point => k_is)
    (case l_is_point => k_is)
    (case c_is_point => k_is)
    (case k_is_point => k_is)
    (case a_is_ends => k_is)
    (case l_is_ends => k_is)
    (case c_is_ends => k_is)
    (case k_is_ends => k_is)
    (case a_whole_of => k_is)
    (case l_whole_of => k_is)
    (case c_whole_of => k_is)
    (case k_whole_of => k_is)
    (case a_show_form => k_is)
    (case l_show_form => k_is)
    (case c_show_form => k_is)
    (case k_show_form => k_is)
    (case a_check_text => k_is)
    (case l_check_text => k_is)
    (case c_check_text => k_is)
    (case k_check_text => k_is)
    (case a_form_of => k_is)
    (case l_form_of => k_is)
    (case c_form_of => k_is)
    (case k_form_of => k_is)
    (case a_read_form => k_is)
    (case l_read_form => k_is)
    (case c_read_form => k_is)
    (case k_read_form => k_is)
    (case a__law_cell_at => k_is)
    (case l__law_cell_at => k_is)
    (case c__law_cell_at => k_is)
    (case k__law_cell_at => k_is)
    (case a__law_well => k_is)
    (case l__law_well => k_is)
    (case c__law_well => k_is)
    (case k__law_well => k_is)
    (case a__law_draw => k_is)
    (case l__law_draw => k_is)
    (case c__law_draw => k_is)
    (case k__law_draw => k_is)
    (case a__law_parts => k_is)
    (case l__law_parts => k_is)
    (case c__law_parts => k_is)
    (case k__law_parts => k_is)
    (case a__law_text => k_is)
    (case l__law_text => k_is)
    (case c__law_text => k_is)
    (case k__law_text => k_is)
    (case a__law_number => k_is)
    (case l__law_number => k_is)
    (case c__law_number => k_is)
    (case k__law_number => k_is)
    (case a__law_read => k_is)
    (case l__law_read => k_is)
    (case c__law_read => k_is)
    (case k__law_read => k_is)
    (case a__law_spoilt => k_is)
    (case l__law_spoilt => k_is)
    (case c__law_spoilt => k_is)
    (case k__law_spoilt => k_is)
    (case a__law_told => k_is)
    (case l__law_told => k_is)
    (case c__law_told => k_is)
    (case k__law_told => k_is)
    (case a__law_right => k_is)
    (case l__law_right => k_is)
    (case c__law_right => k_is)
    (case k__law_right => k_is)
    (case a_law => k_is)
    (case l_law => k_is)
    (case c_law => k_is)
    (case k_law => k_is)
    (case aC_C => k_is)
    (case pg_C => k_is)
    (case hd_C => k_is)
    (case po_C => k_is)
    (case sa_C => k_is)
    (case mk_C => k_is)
    (case kc_C => k_is)
    (case n_C_width => k_is)
    (case n_C_point => k_is)
    (case n_C_manner => k_is)
    (case n_C_ends => k_is)
    (case a_Form___eq__ => k_is)
    (case i_Form___eq__ => k_is)
    (case l_Form___eq__ => k_is)
    (case c_Form___eq__ => k_is)
    (case k_Form___eq__ => k_is)
    (case a_Form___str__ => k_is)
    (case i_Form___str__ => k_is)
    (case l_Form___str__ => k_is)
    (case c_Form___str__ => k_is)
    (case k_Form___str__ => k_is)
    (case a_Form___init__ => k_is)
    (case i_Form___init__ => k_is)
    (case l_Form___init__ => k_is)
    (case c_Form___init__ => k_is)
    (case k_Form___init__ => k_is)
    (case t_Form___init__ => k_is)
    (case g_LEAST_WIDTH => k_is)
    (case g_GREATEST_WIDTH => k_is)
    (case g_GREATEST_POINT => k_is)
    (case g_FIGURES => k_is)
    (case g_MOST_FIGURES => k_is)
    (case g_FREE => k_is)
    (case g_ENDS => k_is)
    (case t_ENDS => k_is)
    (case g_MANNERS => k_is)
    (case t_MANNERS => k_is)
    (case y_MANNERS => (repeat' first | exact trivial | refine ⟨⟨_, _, rfl, rfl⟩, ?_⟩))
    (case w_MANNERS => first | k_is | rfl | decide +kernel)
    (case d_MANNERS_down => k_is)
    (case d_MANNERS_up => k_is)
    (case d_MANNERS_in => k_is)
    (case d_MANNERS_out => k_is)
    (case d_MANNERS_half => k_is)
    (case d_MANNERS_even => k_is)
    (case d_MANNERS_far => k_is)
    (case ky_MANNERS => first | rfl | decide +kernel)
    (case fx_ha => k_is)
    (case fx_hn => k_is)
    (case fx_ht => k_is)
    (case fx_hm => k_is)
    (case fx_kC => kit_is)
    (case fx_kI => kit_is)
    (case fx_kS => kit_is)
    (case fx_kL => kit_is)
    (case fx_kT => kit_is)
    (case fx_kN => kit_is)
    (case fx_nS => first | kernel_rfl | k_is | rfl | decide +kernel)
    (case fx_nL => first | kernel_rfl | k_is | rfl | decide +kernel)
    (case fx_nT => first | kernel_rfl | k_is | rfl | decide +kernel)
    (case fx_nN => first | kernel_rfl | k_is | rfl | decide +kernel)
    (case aC_CE => k_is)
    (case aC_CW => k_is)
    (case aC_CU => k_is)
    (case aC_CB => k_is)
    (case ei_CB => kx_is)
    (case eo_CB => kx_is)
    (case sa_CB => k_is)
    (case ga_CB => k_is)
    (case gg_CB => k_is)
    (case kC_CB => k_is)
    (case ex_CB => k_is)
    (case ty_CB => k_is)
    (case hd_CB => k_is)
    (case ha_CB => k_is)
    (case hn_CB => k_is)
    (case ht_CB => k_is)
    (case hm_CB => k_is)
    (case iC_CB => k_is)
    (case tC_CB => k_is)
    (case l_CB => k_is)
    (case cd_CB => k_is)
    (case lc_CB => k_is)
    (case v2_CB => rfl)
    (case fl_CB => first | rfl | decide +kernel)
    (case ce_CB => k_is)
    (case nf_CB => k_is)
    (case su_CB => ks_is)
    (case sA_CB => k_is)
    (case sf_CB => k_is)
    (case th_CB => k_is)
    (case ms_CB => k_is)
    (case tp_CB => first | rfl | decide +kernel)
    (case aC_CT => k_is)
    (case ei_CT => kx_is)
    (case eo_CT => kx_is)
    (case sa_CT => k_is)
    (case ga_CT => k_is)
    (case gg_CT => k_is)
    (case kC_CT => k_is)
    (case ex_CT => k_is)
    (case ty_CT => k_is)
    (case hd_CT => k_is)
    (case ha_CT => k_is)
    (case hn_CT => k_is)
    (case ht_CT => k_is)
    (case hm_CT => k_is)
    (case iC_CT => k_is)
    (case tC_CT => k_is)
    (case l_CT => k_is)
    (case cd_CT => k_is)
    (case lc_CT => k_is)
    (case v2_CT => rfl)
    (case fl_CT => first | rfl | decide +kernel)
    (case ce_CT => k_is)
    (case nf_CT => k_is)
    (case su_CT => ks_is)
    (case sA_CT => k_is)
    (case sf_CT => k_is)
    (case th_CT => k_is)
    (case ms_CT => k_is)
    (case tp_CT => first | rfl | decide +kernel)
    (case t_CT => k_is)
    (case z_CT => rfl)
    (case xm_CT => kts_exm)
    (case xm_CB => kts_exm)
    (case ki_CT_T => kit_is)
    (case ki_CT_B => kit_is)
    (case ki_CT_W => kit_is)
    (case ki_CT_U => kit_is)
    (case z_isinstance => k_is)
    (case z_int => k_is)
    (case z_bool => k_is)
    (case z_str => k_is)
    (case z_abs => k_is)
    (case z_len => k_is)
    (case z_all => k_is)
    (case z_range => k_is)
