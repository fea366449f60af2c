import PyProof.Rows.All
import Wide.All
import OpenK.AllK
import Wide.FinOn
import HandS.Codes
import HandS.ForMost
import HandS.Wide
import HandS.Zip
import HandS.IsInst
import HandS.Defaults
import HandS.Style
import HandS.ForExc
import HandS.Walk
import HandS.More
import HandS.CallLocal
import HandS.WideBits
import KE.BitLaws
import KE.KBits
import HandS.FStr
import HandS.ExcField
import HandS.ExcIs
import KE.KExcSuper
import KE.KExcInit
import KE.KExcIs
import PyProof.FitsInt
import KE.RegKSuper
import KE.RegKIsAll
import KE.RegKTryMore
import PySem.Challenge.RW_echobound_k08_words_and_values
set_option Elab.async false
set_option linter.all false
set_option maxRecDepth 100000
set_option maxHeartbeats 4000000
namespace PySem
namespace ErrX
open PySem.W PySem.Calls PyProof.Rows PySem.HandSPX
abbrev bmA : List Value := [.type "ArithmeticError", .type "Exception", .type "BaseException", .type "object"]
/-- what the written part says of an error class under ArithmeticError -/
structure ErrC (K : Frag) (mg : Str → Option Value) (x : Str) (C : Addr) : Prop where
  gC : mg x = some (.ref C)
  ei : excInitIn K C bmA "ArithmeticError.__new__" = true
  eo : excOver K C bmA = true
  sa : findIn K (.ref C) "__setattr__" = some (some (.builtin "object.__setattr__"))
  ga : findIn K (.ref C) "__getattribute__" = some (some (.builtin "BaseException.__getattribute__"))
  gg : findIn K (.ref C) "__getattr__" = some none
  kC : keepIn K (.ref C) = true
  exC : subIn K (.ref C) (.type "BaseException") = some true
  tyC : typeIn K (.ref C) = some (.type "type")
  hdC : hasDictIn K C = true
/-- its __init__: super().__init__(f'..'), then one field of the same name as the parameter -/
structure IniC (prog : Program) (K : Frag) (mg : Str → Option Value) (C fI cc : Addr) (qual fld : Str) (st : Stmt) (dV : Value) : Prop where
  iC : findIn K (.ref C) "__init__" = some (some (.ref fI))
  tC : typeIn K (.ref fI) = some (.type "function")
  fn : ∃ (oc : Value) (od : Option Addr) (kV doc pm : Value) (an : Option Addr) (cda : Addr) (ct : Value) (osl : Array (Option Value)),
    K.lookup fI = some ⟨oc, od, .func (ksFn "__init__" qual (L2.defArgs st) (L2.defBody st) (L2.defScope st) dV kV doc pm an (.ref cda) ct cc), osl⟩ ∧ codeIn K (.ref cda) qual = true ∧
    ∃ (ccl : Value) (cdd : Option Addr) (vs : Array Value) (ccs : Array (Option Value)) (file : Str) (tf : Tok), K.lookup cda = some ⟨ccl, cdd, .fields vs, ccs⟩ ∧ vs[2]? = some (.str file tf) ∧ ((prog.main.file : Str) == file) = true
  cell : ∃ (cl : Value) (cld : Option Addr) (csl : Array (Option Value)), K.lookup cc = some ⟨cl, cld, .cell (some (.ref C)), csl⟩
  noF : findIn K (.ref C) fld = some none
  sup : ks_superIn K C C "__init__" = some (some (.builtin "ArithmeticError.__init__"))
  subA : subIn K (.ref C) (.type "ArithmeticError") = some true
  slf : mroIn K C (.ref C) = some true
  th : nsIn K cStatics "thirdparty.any" = some none
  msup : mg "super" = none
  top : (prog.main.scope.names.lookup ("super" : Str)).isSome = false
/-- the parts of the text -/
inductive FP (fld : Str) : Expr → Prop
  | c {x : Str} {j : Nat} {pos : Pos} (h : x.length ≤ 1000) : FP fld (.Constant (.str x) j pos)
  | f {p q : Pos} : FP fld (.FormattedValue (.Name fld p) (-1) none q)
/-- a value that is written as a text of at most a thousand signs -/
def FmtOk (v : Value) : Prop := (∃ y t, v = .str y t ∧ y.length ≤ 1000) ∨ ∃ i t, v = .int i t ∧ i.natAbs.log2 < 1920 ∧ (toString i : String).length ≤ 1000
section
variable {prog : Program} {w : World} {A : Around} {E : Value → Shared → Prop} {R : Result → Shared → Prop} {s : Shared} {K : Frag} {mg mb : Str → Option Value} {C fI cc : Addr} {qual fld : Str} {st : Stmt}
theorem joins_ok {env : Env} {m : Str → Option Value} {v : Value} (hk : env.scope.kind = .function) (hl : env.kindOf fld = some .local) (hd : (fld == ("__debug__" : Str)) = false) (hv : m fld = some v) (fv : FmtOk v) :
    ∀ (es : List Expr) (acc : Str) (s : Shared) (Q : Str → Shared → Prop), (∀ e ∈ es, FP fld e) → acc.length + 1000 * es.length ≤ 100000 → s.heap.Ns env.locals m →
      (∀ out tk, out.length ≤ 100000 → Q out { s with toks := tk }) → Joins (model prog w) A E (evalEach es env) acc Q s
  | [], acc, s, Q, _, hz, _, hq => by
    have e0 : evalEach [] env = [] := by first | rfl | simp [evalEach]
    rw [e0]
    have := hq acc s.toks (by simpa using hz)
    exact this
  | e :: es, acc, s, Q, hp, hz, hn, hq => by
    have e0 : evalEach (e :: es) env = eval e env :: evalEach es env := by first | rfl | simp [evalEach]
    rw [e0]
    have hp' : ∀ e ∈ es, FP fld e := fun e h => hp e (List.mem_cons_of_mem _ h)
    rw [List.length_cons] at hz
    have step : ∀ (y : Str) (t : Tok) (tk : Nat), y.length ≤ 1000 → ∃ y' t', Value.str y t = .str y' t' ∧ (acc ++ y').length ≤ sizeLine ∧ Joins (model prog w) A E (evalEach es env) (acc ++ y') Q { s with toks := tk } := fun y t tk hy => by
      have hlen : (acc ++ y).length = acc.length + y.length := by first | exact Str.length_append _ _ | simp
      refine ⟨y, t, rfl, ?_, ?_⟩
      · rw [hlen, sizeLine_eq]
        omega
      · exact joins_ok hk hl hd hv fv es (acc ++ y) { s with toks := tk } Q hp' (by rw [hlen]; omega) hn fun out tk' ho => hq out tk' ho
    show wpAny _ _ (eval e env) _ _ _
    cases hp e List.mem_cons_self with
    | c h => exact Calls.Constant_str (step _ _ _ h)
    | f =>
      refine wpAny_FormattedValue_plain (wpAny_Name (wpAny_loadName_local hk hl hn hv ?_) hd)
      rcases fv with ⟨y, t, rfl, hy⟩ | ⟨i, t, rfl, hi, hy⟩
      · exact wpAny_formatField_str (step y t s.toks hy) (step y _ _ hy) (by rw [sizeLine_eq]; omega)
      · exact wpAny_formatField_int hi (step _ _ _ (by rw [ofString_length]; exact hy))
end
end ErrX
end PySem

namespace PySem
namespace ErrX
open PySem.W PySem.Calls PyProof.Rows PySem.HandSPX
/-- a dict with one text for its key -/
theorem one_key {h : Heap} {dx : Addr} {fld : Str} {hs : Int} {tk : Tok} {v : Value} (e : h.get? dx = some (dictOf [⟨hs, .str fld tk, v⟩] 1)) : h.Ns1 dx (fun y => if y = fld then some v else none) := by
  refine ⟨_, _, _, e, rfl, fun d hd => ?_, List.pairwise_singleton _ _, fun y => ?_⟩
  · obtain rfl : d = ⟨hs, .str fld tk, v⟩ := by simpa using hd
    exact ⟨fld, tk, rfl⟩
  · by_cases z : y = fld
    · subst z
      simp [nsFind, findBy, Value.isStr]
    · simp [nsFind, findBy, Value.isStr, z, Ne.symm z]
/-- what __init__ leaves of a fresh error at x -/
structure IniEnd (h h' : Heap) (x C dx : Addr) (fld : Str) (v : Value) : Prop where
  keep : ∀ b o, b ≠ x → h.get? b = some o → h'.get? b = some o
  obj : ∃ t1 : Addr, h'.get? x = some { cls := .ref C, dict := some dx, data := .fields #[.ref t1, .none, .none, .none, .bool false, .none] }
  dbig : h.objs.size ≤ dx
  dne : dx ≠ x
  ns : h'.Ns1 dx (fun y => if y = fld then some v else none)
section
variable {prog : Program} {w : World} {A : Around} {E : Value → Shared → Prop} {R : Result → Shared → Prop} {s : Shared} {K : Frag} {mg : Str → Option Value} {C fI cc : Addr} {nm qual fld : Str} {st : Stmt}
abbrev iniScope (fld : Str) : Scope := { kind := .function, names := [(Str.ofString "self", .local), (fld, .local), (Str.ofString "__class__", .free), (Str.ofString "super", .globalImplicit)], isGenerator := false, isCoroutine := false, more := [] }
abbrev iniBody (fld : Str) (v1 v2 : Expr) (rest : List Expr) (p1 p2 p3 p4 p5 p6 q1 q2 q3 q4 : Pos) : List Stmt :=
  [.Expr (.Call (.Attribute (.Call (.Name "super" p1) [] [] p2) "__init__" p3) [.JoinedStr (v1 :: v2 :: rest) p4] [] p5) p6, .Assign [.Attribute (.Name "self" q1) fld q2] (.Name fld q3) q4]
/-- a field's name that is none of these -/
structure FldOk (fld : Str) : Prop where
  f1 : (fld == Str.ofString "self") = false
  f2 : (Str.ofString "__class__" == fld) = false
  f3 : (Str.ofString "super" == fld) = false
  f4 : (Str.ofString "self" == fld) = false
  f5 : (fld == Str.ofString "__debug__") = false
section
variable {fld : Str}
theorem lk_self : (iniScope fld).names.lookup (Str.ofString "self") = some .local := by
  rw [List.lookup_cons, beq_self_eq_true]
theorem lk_fld (O : FldOk fld) : (iniScope fld).names.lookup fld = some .local := by
  rw [List.lookup_cons, O.f1, List.lookup_cons, beq_self_eq_true]
theorem lk_cls (O : FldOk fld) : (iniScope fld).names.lookup (Str.ofString "__class__") = some .free := by
  rw [List.lookup_cons, show (Str.ofString "__class__" == Str.ofString "self") = false by decide +kernel, List.lookup_cons, O.f2, List.lookup_cons, beq_self_eq_true]
theorem lk_sup (O : FldOk fld) : (iniScope fld).names.lookup (Str.ofString "super") = some .globalImplicit := by
  rw [List.lookup_cons, show (Str.ofString "super" == Str.ofString "self") = false by decide +kernel, List.lookup_cons, O.f3, List.lookup_cons, show (Str.ofString "super" == Str.ofString "__class__") = false by decide +kernel, List.lookup_cons, beq_self_eq_true]
end
theorem err_init {s1 p1 p2 p3 p4 p5 p6 q1 q2 q3 q4 : Pos} {v1 v2 : Expr} {rest : List Expr} (EC : ErrC K mg nm C) {dV : Value} (IC : IniC prog K mg C fI cc qual fld st dV) (O : FldOk fld)
    (hbd : L2.defBody st = iniBody fld v1 v2 rest p1 p2 p3 p4 p5 p6 q1 q2 q3 q4)
    (hpar : ((L2.defArgs st).posonlyargs ++ (L2.defArgs st).args).head? = some { arg := "self", annotation := none, pos := s1 })
    (hps : ∀ e ∈ v1 :: v2 :: rest, FP fld e) (hlen : rest.length ≤ 20) (hpos : (p3.endLine == p5.line) = true) (hsc : L2.defScope st = iniScope fld)
    {x t0 : Addr} {v : Value} (MO : L2.Mod K mg s.heap) (hx : s.heap.get? x = some (excO C t0)) (hnx : K.lookup x = none) (hroom : A.depth < recursionLimit) (fv : FmtOk v)
    (hbind : ∀ kV doc pm an cda ct, BindsTo s (ksFn "__init__" qual (L2.defArgs st) (L2.defBody st) (L2.defScope st) dV kV doc pm an (.ref cda) ct cc) ⟨[.ref x, v], []⟩ [(Str.ofString "self", .ref x), (fld, v)])
    (hq : ∀ h' tk dx, IniEnd s.heap h' x C dx fld v → R (.ok (.ret .none)) { s with heap := h', toks := tk }) :
    codeAny (model prog w) A (.call (.ref fI) ⟨[.ref x, v], []⟩) R s := by
  obtain ⟨oc, od, kV, doc, pm, an, cda, ct, osl, ho, hcd, ccl, cdd, vs, ccs, file, tf, hcda, hvs, hfile⟩ := IC.fn
  have X := MO.kin
  have hb := hbind kV doc pm an cda ct
  rw [hbd, hsc] at ho hb
  obtain ⟨cl, cld, csl, hcell⟩ := IC.cell
  obtain ⟨mb, hmb, hmb2⟩ := MO.blt
  obtain ⟨nm', N', qn, bs, bm, hdct, sn, sub, ab, col, dd, k0, k1, k2, k3, k5, hC, hT⟩ := excInit_of X EC.ei
  obtain ⟨hp, g, d, t, os⟩ := s
  refine ks_codeAny_call_defAt (fd := ksFn "__init__" qual (L2.defArgs st) (iniBody fld v1 v2 rest p1 p2 p3 p4 p5 p6 q1 q2 q3 q4) (iniScope fld) dV kV doc pm an (.ref cda) ct cc) (body := iniBody fld v1 v2 rest p1 p2 p3 p4 p5 p6 q1 q2 q3 q4) (binds := [(Str.ofString "self", .ref x), (fld, v)])
    hroom (X _ _ ho) rfl MO.nolimit (codeRec_of X hcd) rfl hb ?_ ?_ (fun h₁ hns k => ?_)
  · intro y hy z
    have hy' : y ∈ (iniScope fld).names := hy
    simp only [List.mem_cons, List.not_mem_nil, or_false] at hy'
    rcases hy' with rfl | rfl | rfl | rfl <;> cases z
  · intro y hy
    simp only [List.mem_cons, List.not_mem_nil, or_false] at hy
    rcases hy with rfl | rfl
    · exact lk_self
    · exact lk_fld O
  · have X₁ : K.In h₁ := X.keeps k
    have hx₁ := k _ _ hx
    have hC₁ := k _ _ hC
    have mS : (fun y => [(Str.ofString "self", Value.ref x), (fld, v)].reverse.lookup y) (Str.ofString "self") = some (.ref x) := by
      show List.lookup (Str.ofString "self") [(fld, v), (Str.ofString "self", Value.ref x)] = _
      rw [List.lookup_cons, O.f4, List.lookup_cons, beq_self_eq_true]
    have mF : (fun y => [(Str.ofString "self", Value.ref x), (fld, v)].reverse.lookup y) fld = some v := by
      show List.lookup fld [(fld, v), (Str.ofString "self", Value.ref x)] = _
      rw [List.lookup_cons, beq_self_eq_true]
    refine ks_wpAt_execs_cons (ks_wpAt_Expr_any (ks_wpAt_MethodCall (pl := (do return (← importBound (.Call (.Name "super" p1) [] [] p2) (ksEnv qual (iniScope fld) hp.objs.size fI (.ref cda) cc)).getD true)) ?_ ?_))
    rotate_left
    · rw [arm_eval_Call]
      unfold methodCall
      have e2 : ∀ env : Env, methodCallPos (methodCallForm ([Expr.JoinedStr (v1 :: v2 :: rest) p4].length + ([] : List Keyword).length) (backTo p5 (starEach [Expr.JoinedStr (v1 :: v2 :: rest) p4] env)) (backToKw p5 (keywordEach [] env))) (.Call (.Name "super" p1) [] [] p2) env p3 p5 = pure p5 := fun env => by
        show (if (!true || p3.endLine == p5.line) = true then pure p5 else _) = _
        rw [hpos]
        rfl
      rw [e2]
      rfl
    refine ks_wpAt_super_base (f := fI) (cc := cda) (lk_sup O) (lk_cls O) (by decide +kernel) rfl (X₁ _ _ ho) rfl hpar rfl (X₁ _ _ hcda) rfl hvs hfile IC.top ?_
    refine ks_loadName_global rfl (lk_sup O) (loadGlobal_builtin (MO.glob.keeps k) IC.msup (hmb.keeps k) ((hmb2 "super" (by decide)).trans (show bootBuiltins "super" = some (.type "super") by decide +kernel)) ⟨rfl, ?_⟩)
    refine wpAny_loadName_free rfl (lk_cls O) rfl ⟨_, X₁ _ _ hcell, rfl⟩ ?_
    refine wpAny_loadName_local rfl lk_self hns mS ?_
    refine ks_wpAny_isType_cls hC₁ rfl ⟨rfl, ?_⟩
    refine ks_wpAny_call_super hC₁ rfl hx₁ rfl (fun c z => by cases z) (looks_mroIn X₁ IC.slf) (fun h₂ hso k₂ => ?_)
    have X₂ : K.In h₂ := X₁.keeps k₂
    have hx₂ := k₂ _ _ hx₁
    have I₂ : W.InstAt h₂ x (excO C t0) C none := ⟨hx₂, rfl, rfl, trivial⟩
    have hsup := IC.sup
    unfold ks_superIn at hsup
    cases hc : clsIn K C with
    | none =>
      rw [hc] at hsup
      cases hsup
    | some cd =>
    rw [hc] at hsup
    refine kxs_getMethod kxs_ArithmeticError hso (looks_opaque X₂ IC.th) (l₀ := cd.mro) (fun A Q E s k q => wpAny_bind ((looks_clsIn X₂ hc) A _ E s k (wpAny_pure q))) rfl X₂ hsup (I₂.type.andThen (looks_subIn X₂ IC.subA)) (ks_ne X₂ I₂ hc) (by decide +kernel) ?_
    have k₃ : ∀ b o, h₂.get? b = some o → (h₂.push (kxs_mw "ArithmeticError.__init__" x)).get? b = some o := fun b o e => Heap.get?_push_of_some _ e
    have hu : (h₂.push (kxs_mw "ArithmeticError.__init__" x)).get? h₂.objs.size = some (kxs_mw "ArithmeticError.__init__" x) := Heap.get?_push_at rfl rfl
    have kk : ∀ b o, hp.get? b = some o → (h₂.push (kxs_mw "ArithmeticError.__init__" x)).get? b = some o := fun b o e => k₃ _ _ (k₂ _ _ (k _ _ e))
    have hns₃ : (h₂.push (kxs_mw "ArithmeticError.__init__" x)).Ns hp.objs.size (fun y => [(Str.ofString "self", Value.ref x), (fld, v)].reverse.lookup y) := by
      obtain ⟨oL, es, ep, hL, r⟩ := hns
      exact ⟨oL, es, ep, k₃ _ _ (k₂ _ _ hL), r⟩
    have hx₃ := k₃ _ _ hx₂
    have hC₃ := kk _ _ hC
    have hsz : h₂.objs.size < (h₂.push (kxs_mw "ArithmeticError.__init__" x)).objs.size := Heap.lt_size hu
    generalize h₂.push (kxs_mw "ArithmeticError.__init__" x) = h₃ at *
    refine kxs_callWith (i := "ArithmeticError.__init__") (x := x) rfl (evalArgs_plain ?_)
    refine Calls.spliced_cons (wpAny_JoinedStr (pos := p4) (joins_ok (env := callEnv (ksFn "__init__" qual (L2.defArgs st) (iniBody fld v1 v2 rest p1 p2 p3 p4 p5 p6 q1 q2 q3 q4) (iniScope fld) dV kV doc pm an (.ref cda) ct cc) hp.objs.size fI) rfl (lk_fld O) O.f5 mF fv _ Str.empty _ _ hps ?_ hns₃ fun out tk ho => ⟨by rw [sizeLine_eq]; omega, ?_⟩))
    · rw [List.length_cons, List.length_cons]
      show 0 + 1000 * (rest.length + 1 + 1) ≤ 100000
      omega
    refine Calls.spliced_nil ⟨hu, ?_⟩
    -- the library's own rules, over the heap of the call with the error itself left out
    have xL : x ≠ hp.objs.size := Nat.ne_of_lt (Heap.lt_size hx)
    have nK : ∀ a o, K.lookup a = some o → a ∉ [x] := fun a o e z => by
      rw [List.mem_singleton.mp z, hnx] at e
      cases e
    have X₀ : K.In (hideAll hp [x]) := fun a o e => hideAll_get [x] (X a o e) (nK a o e)
    have F₃ : Fr (hideAll hp [x]) hp.objs.size h₃ (fun y => [(Str.ofString "self", Value.ref x), (fld, v)].reverse.lookup y) :=
      ⟨hns₃, fun b o e => kk b o (of_hideAll [x] e), Nat.le_of_eq (hideAll_size [x] hp)⟩
    have L₂ : hp.objs.size < h₂.objs.size := by
      obtain ⟨oL, es, ep, hL, _⟩ := hns
      exact Heap.lt_size (k₂ _ _ hL)
    have ux : h₂.objs.size ≠ x := Nat.ne_of_gt (Nat.lt_trans (Heap.lt_size hx) L₂)
    have uo : (hideAll hp [x]).get? h₂.objs.size = none := by
      cases e : (hideAll hp [x]).get? h₂.objs.size with
      | none => rfl
      | some o => exact absurd (Nat.lt_trans (Heap.lt_size (of_hideAll [x] e)) L₂) (Nat.lt_irrefl _)
    have N₃ : News (hideAll hp [x]) hp.objs.size h₃ [(h₂.objs.size, kxs_mw "ArithmeticError.__init__" x), (x, excObj C t0 none .none)] := fun p hp' => by
      rcases List.mem_cons.mp hp' with rfl | hp'
      · exact ⟨hu, Nat.ne_of_gt L₂, uo⟩
      · obtain rfl := List.mem_singleton.mp hp'
        exact ⟨hx₃, xL, hideAll_none [x] (List.mem_singleton.mpr rfl)⟩
    refine kxs_call F₃ X₀ N₃ F.excBase_ArithmeticError EC.ei List.mem_cons_self (.tail ux (.head fun p z => nomatch z)) (by show 1 ≤ sizeLine; decide) fun t1 h₄ F₄ N₄ lt₄ => ?_
    have X₄ : K.In h₄ := X₀.keeps F₄.keep
    have hx₄ : h₄.get? x = some (excO C t1) := (N₄ (x, excObj C t1 none .none) (by simp)).1
    have tx : t1 ≠ x := Nat.ne_of_gt (lt₄ (x, excObj C t0 none .none) (by simp))
    refine ks_wpAt_execs_cons (ks_wpAt_Assign_Attr (wpAt_of_wpAny (wpAny_Name (wpAny_loadName_local rfl (lk_fld O) F₄.ns mF ?_) O.f5)))
    refine wpAny_Name (wpAny_loadName_local rfl lk_self F₄.ns mS ?_) (by decide +kernel)
    refine set_plain X₄ (ox := excO C t1) (od := none) ⟨hx₄, rfl, rfl, trivial⟩ EC.sa ?_
    have free : takerIn K C fld = some none := by
      rw [takerIn, IC.noF]
      rfl
    refine osa_exc0 (pre := [(t1, _), (h₂.objs.size, _)]) (post := []) F.store_ArithmeticError F₄ N₄ X₄ EC.eo free EC.hdC (fun p z => ?_) (fun p z => nomatch z) (putName_dict _ _ _ _ _ _) rfl (by show 1 ≤ 1000; decide) fun dx h₅ F₅ N₅ lt₅ => ?_
    · rcases List.mem_cons.mp z with rfl | z
      · exact tx
      · obtain rfl := List.mem_singleton.mp z
        exact ux
    refine wpAt_of_wpAny (wpAny_execs_nil ?_)
    have xd : x < dx := lt₅ (x, excObj C t1 none .none) (by simp)
    have ud : h₂.objs.size < dx := lt₅ (h₂.objs.size, kxs_mw "ArithmeticError.__init__" x) (by simp)
    exact hq h₅ _ dx ⟨fun b o hb e => F₅.keep b o (hideAll_get [x] e fun z => hb (List.mem_singleton.mp z)), ⟨t1, (N₅ (x, excObj C t1 (some dx) .none) (by simp)).1⟩, Nat.le_of_lt (Nat.lt_trans L₂ ud), Nat.ne_of_gt xd, one_key (N₅ _ List.mem_cons_self).1⟩
end
end ErrX
end PySem

namespace PySem
namespace ErrX
open PySem.W PySem.Calls PyProof.Rows PySem.HandSPX
/-- a made error with one field -/
structure Made1 (h h' : Heap) (e C d : Addr) (fld : Str) (v : Value) : Prop where
  keep : ∀ b o, h.get? b = some o → h'.get? b = some o
  new : h.objs.size ≤ e
  obj : ∃ oe vs, h'.get? e = some oe ∧ oe.cls = .ref C ∧ oe.dict = some d ∧ oe.data = .fields vs ∧ vs[1]? = some .none
  dbig : h.objs.size ≤ d
  dne : d ≠ e
  ns : h'.Ns1 d (fun y => if y = fld then some v else none)
/-- its __init__ does as it should -/
structure IniOk (prog : Program) (w : World) (K : Frag) (mg : Str → Option Value) (C fI : Addr) (fld : Str) : Prop where
  iC : findIn K (.ref C) "__init__" = some (some (.ref fI))
  tC : typeIn K (.ref fI) = some (.type "function")
  run : ∀ (A : Around) (R : Result → Shared → Prop) (s : Shared) (x t0 : Addr) (v : Value), L2.Mod K mg s.heap → s.heap.get? x = some (excO C t0) → K.lookup x = none → A.depth < recursionLimit → FmtOk v →
    (∀ h' tk dx, IniEnd s.heap h' x C dx fld v → R (.ok (.ret .none)) { s with heap := h', toks := tk }) → codeAny (model prog w) A (.call (.ref fI) ⟨[.ref x, v], []⟩) R s
section
variable {prog : Program} {w : World} {A : Around} {E : Value → Shared → Prop} {R : Result → Shared → Prop} {s : Shared} {K : Frag} {mg : Str → Option Value} {C fI : Addr} {nm fld : Str}
theorem err_made (EC : ErrC K mg nm C) (IO : IniOk prog w K mg C fI fld) {v : Value} (MO : L2.Mod K mg s.heap) (hroom : A.depth + 1 < recursionLimit) (fv : FmtOk v)
    (hq : ∀ h' tk e d, Made1 s.heap h' e C d fld v → R (.ok (.ret (.ref e))) { s with heap := h', toks := tk }) :
    codeAny (model prog w) A (.call (.ref C) ⟨[v], []⟩) R s := by
  have X := MO.kin
  obtain ⟨nm', N', qn, bs, bm, hdct, sn, sub, ab, col, dd, k0, k1, k2, k3, k5, hC, hT⟩ := excInit_of X EC.ei
  obtain ⟨hp, g, dr, tk, os⟩ := s
  have k : ∀ b o, hp.get? b = some o → ((hp.push (kdv_tup [v])).push (excO C hp.objs.size)).get? b = some o := fun b o e => Heap.get?_push_of_some _ (Heap.get?_push_of_some _ e)
  have hget : ((hp.push (kdv_tup [v])).push (excO C hp.objs.size)).get? (hp.objs.size + 1) = some (excO C hp.objs.size) := by heap_get
  have hnx : K.lookup (hp.objs.size + 1) = none := by
    cases e : K.lookup (hp.objs.size + 1) with
    | none => rfl
    | some o =>
      have z : hp.get? (hp.objs.size + 1) = some o := X _ _ e
      exact absurd (Nat.lt_of_succ_lt (Heap.lt_size z)) (Nat.lt_irrefl _)
  have MO' : L2.Mod K mg ((hp.push (kdv_tup [v])).push (excO C hp.objs.size)) := by
    obtain ⟨mb, h1, h2⟩ := MO.blt
    exact ⟨X.keeps k, MO.glob.keeps k, ⟨mb, h1.keeps k, h2⟩, MO.nolimit.keeps k⟩
  refine call_own F.excBase_ArithmeticError hT hC (looks_findIn X IO.iC) (fun self => bind_fn X self IO.tC) (by show 1 ≤ sizeLine; decide) ?_
  refine IO.run _ _ ⟨(hp.push (kdv_tup [v])).push (excO C hp.objs.size), g, dr, tk, os⟩ _ _ _ MO' hget hnx ?_ fv fun h' tk' dx ⟨k', ⟨t1, hx⟩, dn, dne, hns⟩ => ?_
  · show A.depth + 1 < recursionLimit
    exact hroom
  · have old : ∀ b o, hp.get? b = some o → h'.get? b = some o := fun b o e => k' b o (Nat.ne_of_lt (Nat.lt_succ_of_lt (Heap.lt_size e))) (k b o e)
    have z : hp.objs.size + 1 + 1 ≤ dx := by
      first
        | (simpa only [Heap.size_push] using dn)
        | exact dn
        | (have q := dn; rw [Heap.size_push, Heap.size_push] at q; exact q)
    exact ⟨rfl, hq h' tk' (hp.objs.size + 1) dx ⟨old, Nat.le_succ _, ⟨_, _, hx, rfl, rfl, rfl, rfl⟩, Nat.le_trans (Nat.le_trans (Nat.le_succ _) (Nat.le_succ _)) z, dne, hns⟩⟩
end
end ErrX
end PySem
namespace E1
open PySem PySem.Spec PyProof.Rows L2
open PySem.ErrX (ErrC IniOk FmtOk)
/-- a value that is written as a text of at most a thousand signs -/
def VFmt (v : V) : Prop := (∃ y : Str, v = .str y ∧ y.length ≤ 1000) ∨ ∃ i : Int, v = .int i ∧ i.natAbs.log2 < 1920 ∧ (toString i : String).length ≤ 1000
theorem VFmt.ok {v : V} {u : Value} (h : VFmt v) (r : RelV v u) : FmtOk u := by
  rcases h with ⟨y, rfl, hy⟩ | ⟨i, rfl, hi, hy⟩
  · obtain ⟨t, rfl⟩ := (show ∃ t, u = Value.str y t from r)
    exact .inl ⟨y, t, rfl, hy⟩
  · obtain ⟨t, rfl⟩ := (show ∃ t, u = Value.int i t from r)
    exact .inr ⟨i, t, rfl, hi, hy⟩
theorem relO_one {fld : Str} {v : V} {v' : Value} (r : RelV v v') (f : Str) : RelO (List.lookup f [(fld, v)]) (if f = fld then some v' else none) := by
  by_cases hw : f = fld
  · subst hw
    rw [if_pos rfl]
    have q : List.lookup f [(f, v)] = some v := by simp [List.lookup]
    rw [q]
    exact r
  · rw [if_neg hw]
    have qw : (f == fld) = false := by simpa using hw
    have q2 : List.lookup f [(fld, v)] = none := by simp [List.lookup, qw]
    rw [q2]
    trivial
section
variable {X : Cx} {C fI : Addr} {x fld : Str}
/-- X(e), an error with one field -/
def tMkErr (C : Addr) (fld : Str) (ta : TA) : L2.St → Hp → XK → Prop := fun σ H Q => ta σ H fun vs H1 => ∃ v, vs = [v] ∧ VFmt v ∧ ∀ d, H1 d = none → Q (.ref C) (some d) (upd H1 d (.xd [(fld, v)]))
theorem pmk_err {a : Expr} {ta : TA} {p pos : Pos} {k : Nat} (EC : ErrC X.K X.mg x C) (IO : IniOk X.prog X.w X.K X.mg C fI fld) (hr : Room k X.A) (ha : PA X [a] ta) (hg : Gl X x := by rfl) (hdb : (x == ("__debug__" : Str)) = false := by decide)
    (he : starEach (a :: []) X.env = (false, eval a X.env) :: starEach [] X.env := by rfl) (hpl : (backTo pos (starEach [] X.env)).any (·.1) = false := by rfl) :
    PMk X (.Call (.Name x p) [a] [] pos) (tMkErr C fld ta) := by
  intro pins s σ H Q I h
  refine wpAny_Call_Name_kw (ld_glob I hg EC.gC ?_ hdb)
  refine PySem.W.callWith_K (h₀ := X.base) I.ok.mod.kin EC.kC (thn (ha.run pos pins s σ H _ I h) fun us s1 hh => ?_) he hpl
  obtain ⟨vs, H1, I1, r1, v, ev, fv, q1⟩ := hh
  subst ev
  refine ⟨I1.kIn, ?_⟩
  cases r1 with
  | cons rv rn =>
    rename_i v' us'
    cases rn
    show wpAny _ _ (call (.ref C) [v']) _ _ _
    have MO : Mod X.K X.mg s1.heap := by
      obtain ⟨mb, h1, h2⟩ := I1.mod.blt
      exact ⟨I1.kIn, I1.mod.glob.keeps I1.bk, ⟨mb, h1.keeps I1.bk, h2⟩, I1.nolimit⟩
    obtain ⟨hp, g, dr, tk, os⟩ := s1
    refine wpAny_call (PySem.ErrX.err_made EC IO MO (by have := hr.dp; omega) (fv.ok rv) fun h' tk' e d M => ?_)
    show MkP X pins σ Q (.ref e) ⟨h', g, dr, tk', os⟩
    obtain ⟨oe, fv', hoe, hc, hd, hdat, h1⟩ := M.obj
    have hns := M.ns
    obtain ⟨G', g1, g2⟩ := restrict h' fun b => decide (b ≠ e)
    have gk : ∀ b, b ≠ e → G'.get? b = h'.get? b := fun b hb => g1 b (decide_eq_true hb)
    have ge : G'.get? e = none := g2 e (by simp)
    have old : ∀ b o, hp.get? b = some o → G'.get? b = some o := fun b o q => (gk b (Nat.ne_of_lt (Nat.lt_of_lt_of_le (Heap.lt_size q) M.new))).trans (M.keep b o q)
    have ob : ObjOk X.prog X.w (upd H1 d (.xd [(fld, v)])) G' d (.xd [(fld, v)]) :=
      ⟨_, hns.at (fun o q => (gk d M.dne).trans q), fun f => relO_one rv f⟩
    have J : Inv X pins σ (upd H1 d (.xd [(fld, v)])) ⟨G', g, dr, tk', os⟩ := I1.laid (t' := tk') old M.dbig ob
    refine ⟨e, oe, fv', ⟨G', g, dr, tk', os⟩, _, .ref C, some d, rfl, J, fun b o q => ?_, ge, hoe, ⟨hc, hd⟩, hdat, h1, ?_, rfl, I1.bare, raises_own EC.exC EC.tyC, q1 d (I1.hok.fresh M.dbig)⟩
    · by_cases hb : b = e
      · have q' : G'.get? b = some o := q
        rw [hb, ge] at q'; cases q'
      · exact (gk b hb).symm.trans q
    · rw [upd_ne (Ne.symm M.dne)]
      exact I1.hok.fresh M.new
/-- raise X(e) -/
def tRaiseErr (C : Addr) (fld : Str) (W : WX) (ta : TA) : TS := fun _ σ H => tMkErr C fld ta σ H fun cls d H' => W cls d σ H'
theorem ps_raiseErr {a : Expr} {ta : TA} {W : WX} {p pos pos2 : Pos} {k : Nat} (hc : X.calm = true) (EC : ErrC X.K X.mg x C) (IO : IniOk X.prog X.w X.K X.mg C fI fld) (hr : Room k X.A) (tk : Takes X W) (ha : PA X [a] ta) (hg : Gl X x := by rfl) (hdb : (x == ("__debug__" : Str)) = false := by decide)
    (he : starEach (a :: []) X.env = (false, eval a X.env) :: starEach [] X.env := by rfl) (hpl : (backTo pos (starEach [] X.env)).any (·.1) = false := by rfl) :
    PS X (.Raise (some (.Call (.Name x p) [a] [] pos)) none pos2) (tRaiseErr C fld W ta) := ps_raise hc tk (pmk_err EC IO hr ha hg hdb he hpl)
/-- e.f of a caught error -/
theorem ErrC.xf {K : PySem.W.Frag} {mg : Str → Option Value} (EC : ErrC K mg x C) : XfC K C := ⟨EC.ga, EC.gg, EC.exC, EC.hdC⟩
end
end E1

namespace E1
open PySem PySem.Spec PyProof.Rows L2
open PySem.ErrX (ErrC IniOk FmtOk)
/-- isinstance(e, c), e the error that the suite holds, its class an own one -/
def rIsX (K : PySem.W.Frag) (a : Addr) (cls : Value) (d : Option Addr) : List V → Hp → VK → Prop := fun xs H Q => ∃ (D : Addr) (c : V) (cv : Value) (b : Bool), cls = .ref D ∧ ExcC K D ∧ xs = [.ref a, c] ∧ (∀ u, RelV c u → u = cv) ∧
  (∀ dd, d = some dd → ∃ fs, H dd = some (.xd fs)) ∧ PySem.W.kitOne K (.ref D) cv = some b ∧ Q (.bl b) H
theorem call_isX {X : Cx} {a : Addr} {cls : Value} {d : Option Addr} {oe : Obj} {pn : List (Addr × Obj)} (hz : Zc cls d oe) (hf : ∃ vs, oe.data = .fields vs) : CallR (X.suite a ((a, oe) :: pn)) (.builtin "isinstance") (rIsX X.K a cls d) := by
  intro pins s σ H xs us Q I r ⟨D, c, cv, b, hcls, C, hxs, only, hdd, yes, q⟩
  subst hcls hxs
  match d, hz, hdd, us, r with
  | none, hz, _, us, r => exact call_isE C hz hf pins s σ H _ us Q I r ⟨c, cv, b, rfl, only, yes, q⟩
  | some dd, ⟨kind, own⟩, hdd, [x, u], .cons hx (.cons hu .nil) =>
    cases hx
    cases only u hu
    obtain ⟨fs, tracked⟩ := hdd dd rfl
    obtain ⟨m, space, _⟩ := show ObjOk X.prog X.w H s.heap dd (.xd fs) from I.hok dd _ tracked
    obtain ⟨dict, lies, _⟩ := lookIn_ns space
    obtain ⟨parts, hparts⟩ := hf
    have held := (I.pin (a, oe) (by simp)).1
    have inst : PySem.W.InstAt s.heap a oe D (some dict) := by
      refine ⟨held, kind, ?_, ?_⟩
      · obtain ⟨_, _, dat, _⟩ := oe
        dsimp only at hparts ⊢
        rw [hparts]
        rfl
      · simpa [own] using lies
    have known : (PySem.W.clsIn X.K D).isSome = true := Option.isSome_iff_exists.mpr ((PySem.W.any_some C.hd).imp fun _ z => z.1)
    exact PySem.W.kia_one (PySem.W.kitx_exc known C.hg C.hk C.hs C.ha C.hn C.ht C.hm) I.kIn inst yes (fun z => nomatch z) fun tk => ⟨.bl b, H, I.kept (t' := tk) fun _ _ z => z, rfl, q⟩
/-! ### calls of defs that may raise -/
def CalX (P : Program) (w : World) (K : PySem.W.Frag) (mg : Str → Option Value) (base : Heap) (k : Nat) (x : Str) (ps : List Str) (dvs : List V) (sp : Sp) : Prop :=
  ∃ (f : Addr) (fd : FuncData) (ds : List Value), mg x = some (.ref f) ∧ PySem.W.keepIn K (.ref f) = true ∧ Vals dvs ds ∧ Binds K fd ps ds ∧ FnOk P w K mg base (L2.CX P w) k f fd ps sp
theorem pe_calx {X : Cx} {k j : Nat} {x : Str} {ps : List Str} {dvs : List V} {sp : Sp} {e : Expr} {es : List Expr} {t : TA} {p pos : Pos} (c : CalX X.prog X.w X.K X.mg X.base k x ps dvs sp) (hr : Room j X.A) (ha : PA X (e :: es) t) (hle : k ≤ j := by decide) (hg : Gl X x := by rfl)
    (hdb : (x == ("__debug__" : Str)) = false := by decide) (he : starEach (e :: es) X.env = (false, eval e X.env) :: starEach es X.env := by rfl) (hpl : (backTo pos (starEach es X.env)).any (·.1) = false := by rfl) :
    PE X (.Call (.Name x p) (e :: es) [] pos) (tCall sp dvs E0 t) := by
  obtain ⟨f, fd, ds, h1, h2, hd, h3, h4⟩ := c
  exact pe_call h4 (hr.mono hle) hg h1 h2 h3 hd passL ha hdb he hpl
def CalXK (P : Program) (w : World) (K : PySem.W.Frag) (mg : Str → Option Value) (base : Heap) (k : Nat) (x : Str) (ps : List Str) (n : Nat) (ks : List Str) (gV : List V → List V → List V) (sp : Sp) : Prop :=
  ∃ (f : Addr) (fd : FuncData) (g : List Value → List Value → List Value), mg x = some (.ref f) ∧ PySem.W.keepIn K (.ref f) = true ∧ KBn K fd ps n ks g gV ∧ FnOk P w K mg base (L2.CX P w) k f fd ps sp
theorem pe_calkx0 {X : Cx} {k j : Nat} {x : Str} {ps ks : List Str} {gV : List V → List V → List V} {sp : Sp} {kws : List Keyword} {tk : TA} {p pos : Pos} (c : CalXK X.prog X.w X.K X.mg X.base k x ps 0 ks gV sp) (hr : Room j X.A)
    (hkw : PK X kws tk) (hle : k ≤ j := by decide) (hg : Gl X x := by rfl) (hall : (backToKw pos (keywordEach kws X.env)).all (·.1.isSome) = true := by rfl) (hks : (backToKw pos (keywordEach kws X.env)).filterMap (·.1) = ks := by rfl)
    (hdb : (x == ("__debug__" : Str)) = false := by decide)
    (hpl : ((backTo pos (starEach [] X.env)).any (·.1) || (backToKw pos (keywordEach kws X.env)).any (·.1.isNone)) = false := by rfl) :
    PE X (.Call (.Name x p) [] kws pos) (tCallN 0 ks.length sp gV E0 tNil tk) := by
  obtain ⟨f, fd, g, h1, h2, h3, h4⟩ := c
  refine ⟨fun pins s σ H Q I h => ?_⟩
  refine wpAny_Call_Name_kw (ld_glob I hg h1 ?_ hdb)
  refine PySem.W.callWith_KW0 (h₀ := X.base) I.ok.mod.kin h2 hall (thn (hkw.run pos pins s σ H _ I h) fun ws s2 ⟨zs, H2, I2, rz, l1, l2, q2⟩ => ⟨I2.kIn, ?_⟩) hpl
  rw [hks]
  exact run_fnN (vs := []) (us := []) h4 (hr.mono hle) h3 passL I2 .nil rz l1 l2 q2
/-- a call whose error a try around it waits for -/
theorem pe_calxS {X : Cx} {k j : Nat} {x : Str} {ps : List Str} {sp : Sp} {e : Expr} {es : List Expr} {t : TA} {p pos : Pos} {W : WX} (c : CalX X.prog X.w X.K X.mg X.base k x ps [] sp) (hr : Room j X.A) (tk : Takes X W) (ha : PA X (e :: es) t) (hle : k ≤ j := by decide) (hg : Gl X x := by rfl)
    (hdb : (x == ("__debug__" : Str)) = false := by decide) (he : starEach (e :: es) X.env = (false, eval e X.env) :: starEach es X.env := by rfl) (hpl : (backTo pos (starEach es X.env)).any (·.1) = false := by rfl) :
    PE X (.Call (.Name x p) (e :: es) [] pos) (tCallS sp (WE W) t) := by
  obtain ⟨f, fd, ds, h1, h2, hd, h3, h4⟩ := c
  cases hd
  exact pe_callS h4 (hr.mono hle) hg h1 h2 h3 (fun σ => passAt tk σ) ha hdb he hpl
end E1

namespace E1
open PySem PySem.Spec PyProof.Rows L2
/-! ### a def of the text that is called by its name -/
def Cal (P : Program) (w : World) (K : PySem.W.Frag) (mg : Str → Option Value) (base : Heap) (k : Nat) (x : Str) (ps : List Str) (sp : Sp) : Prop :=
  ∃ (f : Addr) (fd : FuncData), mg x = some (.ref f) ∧ PySem.W.keepIn K (.ref f) = true ∧ Binds K fd ps [] ∧ FnOk P w K mg base CX0 k f fd ps sp
theorem pe_cal {X : Cx} {k j : Nat} {x : Str} {ps : List Str} {sp : Sp} {e : Expr} {es : List Expr} {t : TA} {p pos : Pos} (c : Cal X.prog X.w X.K X.mg X.base k x ps sp) (hr : Room j X.A) (ha : PA X (e :: es) t) (hle : k ≤ j := by decide) (hg : Gl X x := by rfl)
    (hdb : (x == ("__debug__" : Str)) = false := by decide) (he : starEach (e :: es) X.env = (false, eval e X.env) :: starEach es X.env := by rfl) (hpl : (backTo pos (starEach es X.env)).any (·.1) = false := by rfl) :
    PE X (.Call (.Name x p) (e :: es) [] pos) (tCall sp [] E0 t) := by
  obtain ⟨f, fd, h1, h2, h3, h4⟩ := c
  exact pe_call h4 (hr.mono hle) hg h1 h2 h3 .nil pass0 ha hdb he hpl
/-! ### heaps -/
def SameBut (a : Addr) (H H' : Hp) : Prop := ∀ b o, b ≠ a → H b = some o → H' b = some o
theorem SameBut.refl (a : Addr) (H : Hp) : SameBut a H H := fun _ _ _ h => h
theorem SameBut.trans {a : Addr} {H H1 H2 : Hp} (x : SameBut a H H1) (y : SameBut a H1 H2) : SameBut a H H2 := fun b o n h => y b o n (x b o n h)
theorem SameBut.of {a : Addr} {H H' : Hp} (s : Same H H') : SameBut a H H' := fun b o _ h => s b o h
theorem SameBut.upd {a : Addr} {H : Hp} {o : HO} : SameBut a H (upd H a o) := fun b _ n h => by
  rw [upd_ne n]
  exact h
theorem same_new {H : Hp} {p : Addr} {o : HO} (h : H p = none) : Same H (upd H p o) := fun b x e => by
  rw [upd_ne (ne_of_none e h)]
  exact e
theorem Same.tup {K : PySem.W.Frag} {H H' : Hp} {a : Addr} {xs : List V} (e : Same H H') (h : SqT K H a xs) : SqT K H' a xs := by
  rcases h with (h | ⟨o, h⟩) | h
  · exact .inl (.inl (e _ _ h))
  · exact .inl (.inr ⟨o, e _ _ h⟩)
  · exact .inr h
theorem a0 {α : Type} {x : α} {l : List α} : atI (x :: l) 0 = some x := atI_nat (j := 0) rfl
theorem a1 {α : Type} {x y : α} {l : List α} : atI (x :: y :: l) 1 = some y := atI_nat (j := 1) rfl
theorem a2 {α : Type} {x y z : α} {l : List α} : atI (x :: y :: z :: l) 2 = some z := atI_nat (j := 2) rfl
theorem toB {p : Prop} [Decidable p] (h : decide p = true) : p := of_decide_eq_true h
theorem toNB {p : Prop} [Decidable p] (h : ¬ decide p = true) : ¬ p := fun z => h (decide_eq_true z)
/-- a well: the digits left, a number that is mixed, how many were mixed (at most c) -/
def WellAt (H : Hp) (a : Addr) (c : Int) : Prop := ∃ x y z : Int, H a = some (.lst [.int x, .int y, .int z]) ∧ 0 ≤ y ∧ y < 2147483647 ∧ 0 ≤ z ∧ z ≤ c
theorem WellAt.mono {H : Hp} {a : Addr} {c d : Int} (h : WellAt H a c) (l : c ≤ d) : WellAt H a d := by
  obtain ⟨x, y, z, e, h1, h2, h3, h4⟩ := h
  exact ⟨x, y, z, e, h1, h2, h3, by omega⟩
theorem WellAt.same {H H' : Hp} {a : Addr} {c : Int} (h : WellAt H a c) (s : Same H H') : WellAt H' a c := by
  obtain ⟨x, y, z, e, h1, h2, h3, h4⟩ := h
  exact ⟨x, y, z, s _ _ e, h1, h2, h3, h4⟩
theorem WellAt.but {H H' : Hp} {a b : Addr} {c : Int} (h : WellAt H a c) (s : SameBut b H H') (n : a ≠ b) : WellAt H' a c := by
  obtain ⟨x, y, z, e, h1, h2, h3, h4⟩ := h
  exact ⟨x, y, z, s _ _ n e, h1, h2, h3, h4⟩
/-! ### promises of the law's helpers -/
def spCell (K : PySem.W.Frag) : Sp := fun vs H Q _ => ∃ (a : Addr) (ns : List Int) (k : Nat), vs = [.ref a, .int k] ∧ SqL K H a (ns.map V.int) ∧ Q (.int (ns.getD k 0)) H
def spWell : Sp := fun vs H Q _ => ∃ c : Int, vs = [.int c] ∧ ∀ p : Addr, H p = none → ∀ H', Same H H' → WellAt H' p 0 → Q (.ref p) H'
/-- a number from 0 to below m; the well has at most one more -/
def spDraw : Sp := fun vs H Q _ => ∃ (a : Addr) (c m : Int), vs = [.ref a, .int m] ∧ WellAt H a c ∧ c ≤ 1000000000 ∧ 0 < m ∧ m.natAbs < 2 ^ 9000 ∧
  ∀ (r : Int) (H' : Hp), 0 ≤ r → r < m → SameBut a H H' → (∀ b, H b = none → H' b = none) → WellAt H' a (c + 1) → Q (.int r) H'
def topS (i : Nat) : Stmt := PySem.Challenge.pw_echobound_k08_words_and_values.main.body.getD i (.Pass ⟨0, 0, 0, 0⟩)
abbrev s__wall : Stmt := topS 0
abbrev s_is_whole : Stmt := topS 9
abbrev s_shared_divisor : Stmt := topS 10
abbrev s_lowest : Stmt := topS 11
abbrev s_times : Stmt := topS 12
abbrev s_divided : Stmt := topS 13
abbrev s_two_to : Stmt := topS 14
abbrev s_downward : Stmt := topS 16
abbrev s_upward : Stmt := topS 17
abbrev s_inward : Stmt := topS 18
abbrev s_outward : Stmt := topS 19
abbrev s_nearest_greater : Stmt := topS 20
abbrev s_nearest_even : Stmt := topS 21
abbrev s_nearest_far : Stmt := topS 22
abbrev s_is_manner : Stmt := topS 24
abbrev s_rounded : Stmt := topS 25
abbrev s_is_width : Stmt := topS 31
abbrev s_is_point : Stmt := topS 32
abbrev s_is_ends : Stmt := topS 33
abbrev s__law_cell_at : Stmt := topS 36
abbrev s__law_well : Stmt := topS 37
abbrev s__law_draw : Stmt := topS 38
abbrev s__law_value : Stmt := topS 39
abbrev s__law_fraction : Stmt := topS 40
abbrev s__law_refused : Stmt := topS 41
abbrev s_law : Stmt := topS 42
section
variable {P : Program} {w : World} {K : PySem.W.Frag} {mg : Str → Option Value} {base : Heap}
theorem sc__law_cell_at : FnScope ["_law_script", "_law_k"] ["_law_script", "_law_k"] (defScope s__law_cell_at) := ⟨rfl, rfl, rfl, by decide +kernel, rfl, by decide +kernel, by decide +kernel⟩
theorem sc__law_well : FnScope ["_law_cell"] ["_law_cell"] (defScope s__law_well) := ⟨rfl, rfl, rfl, by decide +kernel, rfl, by decide +kernel, by decide +kernel⟩
theorem sc__law_draw : FnScope ["_law_well_here", "_law_many", "_law_found", "_law_number"] ["_law_well_here", "_law_many"] (defScope s__law_draw) := ⟨rfl, rfl, rfl, by decide +kernel, rfl, by decide +kernel, by decide +kernel⟩
theorem ok_cell {f : Addr} {fd : FuncData} {k : Nat} (F : Fun K "_law_cell_at" "_law_cell_at" s__law_cell_at f fd) (zl : mg "len" = none) : FnOk P w K mg base CX0 (k + 1) f fd ["_law_script", "_law_k"] (spCell K) := by
  refine F.ok sc__law_cell_at (fun vs H Q E h => ?_) (fun cdv A outer s H vs Q E hr h => ?_)
  · obtain ⟨a, ns, k, rfl, _⟩ := h
    rfl
  · obtain ⟨a, ns, k, rfl, hS, q⟩ := h
    refine ⟨_, (pss_cons (ps_if (pt_cmpR op_lt (pv 1) (pe_callB call_len_seq (by rfl) zl PySem.boot_len (pa_cons (pv 0) pa_nil)) (nomark _)) (pss_one (ps_ret (pe_ix ix_list (pv 0) (pv 1) (fun _ _ => rfl)))) pss_nil)
      (pss_one (ps_ret pe_int))), ?_⟩
    refine ⟨_, rfl, _, rfl, a, _, rfl, .inl hS, _, _, rfl, rfl, _, rfl, ite2 (fun c => ?_) (fun c => ?_)⟩
    · have hk : k < ns.length := by
        have := toB c
        rw [List.length_map] at this
        omega
      refine ⟨_, rfl, _, rfl, a, _, k, .int (ns.getD k 0), rfl, rfl, hS, atI_nat ?_, q⟩
      rw [List.getElem?_map, List.getElem?_eq_getElem hk, List.getD_eq_getElem?_getD, List.getElem?_eq_getElem hk]
      rfl
    · have hk : ¬ k < ns.length := fun z => by
        have := toNB c
        rw [List.length_map] at this
        omega
      have e : ns.getD k 0 = 0 := by
        rw [List.getD_eq_getElem?_getD, List.getElem?_eq_none (by omega)]
        rfl
      rw [e] at q
      exact q
theorem ok_well {f : Addr} {fd : FuncData} {k : Nat} (F : Fun K "_law_well" "_law_well" s__law_well f fd) (zi : mg "int" = none) : FnOk P w K mg base CX0 (k + 1) f fd ["_law_cell"] spWell := by
  refine F.ok sc__law_well (fun vs H Q E h => ?_) (fun cdv A outer s H vs Q E hr h => ?_)
  · obtain ⟨c, rfl, _⟩ := h
    rfl
  · obtain ⟨c, rfl, q⟩ := h
    refine ⟨_, (pss_one (ps_ret (pe_lst (pa_cons (pe_op op_mul (pv 0) (pe_callTy call_int1 (by rfl) zi (by decide +kernel) (pa_cons (pe_cmpR op_ge (pv 0) (pe_op op_pow pe_int pe_int) (nomark _)) pa_nil))) (pa_cons (pe_op op_mod (pv 0) pe_int) (pa_cons pe_int pa_nil)))))), ?_⟩
    refine ⟨_, rfl, _, rfl, _, _, rfl, rfl, ⟨by decide, by decide, by decide⟩, _, _, rfl, rfl, .inr ⟨_, rfl, _, _, rfl, rfl, .inr ?_, ?_⟩⟩
    · split <;> decide
    · refine ⟨_, rfl, _, _, rfl, rfl, (by show (0 : Int) < 2147483647; decide), (by show 3 ≤ sizeLine; decide), fun p hp => ?_⟩
      exact q p hp _ (same_new hp) ⟨_, _, _, upd_same, Int.emod_nonneg _ (by decide), Int.emod_lt_of_pos _ (by decide), Int.le_refl _, Int.le_refl _⟩
theorem ok_draw {f : Addr} {fd : FuncData} {k : Nat} (F : Fun K "_law_draw" "_law_draw" s__law_draw f fd) : FnOk P w K mg base CX0 (k + 1) f fd ["_law_well_here", "_law_many"] spDraw := by
  refine F.ok sc__law_draw (fun vs H Q E h => ?_) (fun cdv A outer s H vs Q E hr h => ?_)
  · obtain ⟨a, c, m, rfl, _⟩ := h
    rfl
  · obtain ⟨a, c, m, rfl, ⟨x, y, z, hw, y0, y1, z0, z1⟩, hc, m0, m1, q⟩ := h
    have fr : ∀ o b, H b = none → (upd H a o) b = none := fun o b hb => by
      rw [upd_ne (fun e => by rw [e, hw] at hb; cases hb)]
      exact hb
    refine ⟨_, (pss_cons (ps_if (pt_cmpR op_gt (pe_ix ix_list (pv 0) pe_int (fun _ _ => rfl)) pe_int (nomark _)) (pss_cons (ps_set (i := 2) sc__law_draw.nd rfl (.inl rfl) (pe_op op_mod (pe_ix ix_list (pv 0) pe_int (fun _ _ => rfl)) (pv 1)))
      (pss_cons (ps_asg (pe_op op_fdivW (pe_ix ix_list (pv 0) pe_int (fun _ _ => rfl)) (pv 1)) (pg_sub (pv 0) pe_int set_list))
      (pss_one (ps_ret (pv 2))))) pss_nil)
      (pss_cons (ps_asg (pe_op op_add (pe_ix ix_list (pv 0) pe_int (fun _ _ => rfl)) pe_int) (pg_sub (pv 0) pe_int set_list))
      (pss_cons (ps_set (i := 3) sc__law_draw.nd rfl (.inl rfl) (pe_op op_mod (pe_op op_pow (pe_op op_add (pe_op op_add (pe_ix ix_list (pv 0) pe_int (fun _ _ => rfl)) (pe_op op_mul pe_int (pe_ix ix_list (pv 0) pe_int (fun _ _ => rfl)))) pe_int) pe_int) pe_int))
      (pss_cons (ps_set (i := 3) sc__law_draw.nd rfl (.inl rfl) (pe_op op_mod (pe_op op_mul (pv 3) (pe_op op_add (pe_op op_fdiv (pv 3) pe_int) pe_int)) pe_int))
      (pss_one (ps_ret (pe_op op_mod (pe_op op_mod (pe_op op_mul (pv 3) (pe_op op_add (pe_op op_fdiv (pv 3) pe_int) pe_int)) pe_int) (pv 1)))))))), ?_⟩
    refine ⟨_, rfl, a, _, 0, .int x, rfl, rfl, SqL.of hw, a0, x, 0, rfl, rfl, _, rfl, ite2 (fun c => ?_) (fun c => ?_)⟩
    · refine ⟨_, rfl, a, _, 0, .int x, rfl, rfl, SqL.of hw, a0, _, rfl, x, m, rfl, rfl, m0, ?_⟩
      refine ⟨_, rfl, a, _, 0, .int x, rfl, rfl, SqL.of hw, a0, _, rfl, x, m, rfl, rfl, wide_div m0 m1 (by decide) (Nat.le_refl _), _, rfl, a, _, 0, 0, rfl, rfl, hw, rfl, ?_⟩
      refine ⟨_, rfl, q _ _ (Int.emod_nonneg _ (by omega)) (Int.emod_lt_of_pos _ m0) SameBut.upd (fr _) ⟨_, _, _, upd_same, y0, y1, z0, by omega⟩⟩
    · refine ⟨_, rfl, a, _, 2, .int z, rfl, rfl, SqL.of hw, a2, z, 1, rfl, rfl, _, rfl, a, _, 2, 2, rfl, rfl, hw, rfl, ?_⟩
      have hw2 : (upd H a (.lst [V.int x, V.int y, V.int (z + 1)])) a = some (.lst [V.int x, V.int y, V.int (z + 1)]) := upd_same
      have n5 : 0 ≤ y + 7919 * (z + 1) + 1 ∧ y + 7919 * (z + 1) + 1 < 18446744073709551616 := by omega
      refine ⟨_, rfl, a, _, 1, .int y, rfl, rfl, SqL.of hw2, a1, _, rfl, a, _, 2, .int (z + 1), rfl, rfl, SqL.of hw2, a2, _, _, rfl, rfl, .inl ⟨by decide, by decide⟩, _, _, rfl, rfl, _, _, rfl, rfl, _, _, rfl, rfl, ⟨by decide, by decide, ?_⟩, _, _, rfl, rfl, (by show (0 : Int) < 2147483647; decide), ?_⟩
      · show (y + 7919 * (z + 1) + 1).natAbs < 18446744073709551616
        omega
      · generalize hn : (y + 7919 * (z + 1) + 1) ^ (5 : Int).toNat % 2147483647 = n
        have n0 : 0 ≤ n := by rw [← hn]; exact Int.emod_nonneg _ (by decide)
        have n1 : n < 2147483647 := by rw [← hn]; exact Int.emod_lt_of_pos _ (by decide)
        refine ⟨_, rfl, _, rfl, _, _, rfl, rfl, ⟨by decide, by decide⟩, _, _, rfl, rfl, _, _, rfl, rfl, .inl ⟨by omega, by omega⟩, _, _, rfl, rfl, (by show (0 : Int) < 2147483629; decide), ?_⟩
        generalize hm : n * (n / 1009 + 69621) % 2147483629 = u
        have u0 : 0 ≤ u := by rw [← hm]; exact Int.emod_nonneg _ (by decide)
        have u1 : u < 2147483629 := by rw [← hm]; exact Int.emod_lt_of_pos _ (by decide)
        refine ⟨_, rfl, _, rfl, _, _, rfl, rfl, ⟨by decide, by decide⟩, _, _, rfl, rfl, _, _, rfl, rfl, .inl ⟨by omega, by omega⟩, _, _, rfl, rfl, (by show (0 : Int) < 2147483587; decide), _, rfl, _, _, rfl, rfl, m0, ?_⟩
        exact q _ _ (Int.emod_nonneg _ (by omega)) (Int.emod_lt_of_pos _ m0) SameBut.upd (fr _) ⟨_, _, _, upd_same, y0, y1, by omega, by omega⟩
end
end E1

namespace E1
open PySem PySem.Spec PyProof.Rows L2

def CalD (P : Program) (w : World) (K : PySem.W.Frag) (mg : Str → Option Value) (base : Heap) (k : Nat) (x : Str) (ps : List Str) (dvs : List V) (sp : Sp) : Prop :=
  ∃ (f : Addr) (fd : FuncData) (ds : List Value), mg x = some (.ref f) ∧ PySem.W.keepIn K (.ref f) = true ∧ Vals dvs ds ∧ Binds K fd ps ds ∧ FnOk P w K mg base CX0 k f fd ps sp
theorem pe_cald {X : Cx} {k j : Nat} {x : Str} {ps : List Str} {dvs : List V} {sp : Sp} {e : Expr} {es : List Expr} {t : TA} {p pos : Pos} (c : CalD X.prog X.w X.K X.mg X.base k x ps dvs sp) (hr : Room j X.A) (ha : PA X (e :: es) t) (hle : k ≤ j := by decide) (hg : Gl X x := by rfl)
    (hdb : (x == ("__debug__" : Str)) = false := by decide) (he : starEach (e :: es) X.env = (false, eval e X.env) :: starEach es X.env := by rfl) (hpl : (backTo pos (starEach es X.env)).any (·.1) = false := by rfl) :
    PE X (.Call (.Name x p) (e :: es) [] pos) (tCall sp dvs E0 t) := by
  obtain ⟨f, fd, ds, h1, h2, hd, h3, h4⟩ := c
  exact pe_call h4 (hr.mono hle) hg h1 h2 h3 hd pass0 ha hdb he hpl
def CalK (P : Program) (w : World) (K : PySem.W.Frag) (mg : Str → Option Value) (base : Heap) (k : Nat) (x : Str) (ps : List Str) (n : Nat) (ks : List Str) (gV : List V → List V → List V) (sp : Sp) : Prop :=
  ∃ (f : Addr) (fd : FuncData) (g : List Value → List Value → List Value), mg x = some (.ref f) ∧ PySem.W.keepIn K (.ref f) = true ∧ KBn K fd ps n ks g gV ∧ FnOk P w K mg base CX0 k f fd ps sp
theorem pe_calk {X : Cx} {k j n : Nat} {x : Str} {ps ks : List Str} {gV : List V → List V → List V} {sp : Sp} {e : Expr} {es : List Expr} {kws : List Keyword} {t tk : TA} {p pos : Pos} (c : CalK X.prog X.w X.K X.mg X.base k x ps n ks gV sp) (hr : Room j X.A)
    (ha : PA X (e :: es) t) (hkw : PK X kws tk) (hle : k ≤ j := by decide) (hg : Gl X x := by rfl) (hall : (backToKw pos (keywordEach kws X.env)).all (·.1.isSome) = true := by rfl) (hks : (backToKw pos (keywordEach kws X.env)).filterMap (·.1) = ks := by rfl)
    (hdb : (x == ("__debug__" : Str)) = false := by decide) (he : starEach (e :: es) X.env = (false, eval e X.env) :: starEach es X.env := by rfl)
    (hpl : ((backTo pos (starEach (e :: es) X.env)).any (·.1) || (backToKw pos (keywordEach kws X.env)).any (·.1.isNone)) = false := by rfl) :
    PE X (.Call (.Name x p) (e :: es) kws pos) (tCallN n ks.length sp gV E0 t tk) := by
  obtain ⟨f, fd, g, h1, h2, h3, h4⟩ := c
  exact pe_callN h4 (hr.mono hle) hg h1 h2 h3 pass0 ha hkw hall hks hdb he hpl
theorem pe_calk0 {X : Cx} {k j : Nat} {x : Str} {ps ks : List Str} {gV : List V → List V → List V} {sp : Sp} {kws : List Keyword} {tk : TA} {p pos : Pos} (c : CalK X.prog X.w X.K X.mg X.base k x ps 0 ks gV sp) (hr : Room j X.A)
    (hkw : PK X kws tk) (hle : k ≤ j := by decide) (hg : Gl X x := by rfl) (hall : (backToKw pos (keywordEach kws X.env)).all (·.1.isSome) = true := by rfl) (hks : (backToKw pos (keywordEach kws X.env)).filterMap (·.1) = ks := by rfl)
    (hdb : (x == ("__debug__" : Str)) = false := by decide)
    (hpl : ((backTo pos (starEach [] X.env)).any (·.1) || (backToKw pos (keywordEach kws X.env)).any (·.1.isNone)) = false := by rfl) :
    PE X (.Call (.Name x p) [] kws pos) (tCallN 0 ks.length sp gV E0 tNil tk) := by
  obtain ⟨f, fd, g, h1, h2, h3, h4⟩ := c
  refine ⟨fun pins s σ H Q I h => ?_⟩
  refine wpAny_Call_Name_kw (ld_glob I hg h1 ?_ hdb)
  refine PySem.W.callWith_KW0 (h₀ := X.base) I.ok.mod.kin h2 hall (thn (hkw.run pos pins s σ H _ I h) fun ws s2 ⟨zs, H2, I2, rz, l1, l2, q2⟩ => ⟨I2.kIn, ?_⟩) hpl
  rw [hks]
  exact run_fnN (vs := []) (us := []) h4 (hr.mono hle) h3 pass0 I2 .nil rz l1 l2 q2
/-- a class handed to isinstance -/
theorem isiB {K : PySem.W.Frag} {H : Hp} {x : V} {a b : String} {r : Bool} {Q : VK} (ty : TyX K H x (.type a)) (k : kitB a b = some r) (q : Q (.bl r) H) : rIsi K [x, .ty b] H Q :=
  ⟨x, .ty b, .type a, .type b, r, rfl, .ty _, ty, kit_ty k, q⟩
/-- whether a thing is a whole number -/
def WholeIs (K : PySem.W.Frag) (H : Hp) (x : V) (b : Bool) : Prop := (∃ i, x = .int i ∧ b = true) ∨ (∃ c, x = .bl c ∧ b = false) ∨ (b = false ∧ ∃ t : String, TyX K H x (.type t) ∧ kitB t "int" = some false)
theorem WholeIs.int {K : PySem.W.Frag} {H : Hp} (i : Int) : WholeIs K H (.int i) true := .inl ⟨i, rfl, rfl⟩
def spWhole (K : PySem.W.Frag) : Sp := fun vs H Q _ => ∃ (x : V) (b : Bool), vs = [x] ∧ WholeIs K H x b ∧ Q (.bl b) H
/-! ### the mathematics of fractions in lowest terms -/
def gI (t b : Int) : Int := (Int.gcd t b : Nat)
def lowT (t b : Int) : Int := (if b < 0 then -t else t) / gI t b
def lowB (t b : Int) : Int := (if b < 0 then -b else b) / gI t b
theorem gI_neg (t b : Int) : gI (-t) (-b) = gI t b := by
  unfold gI
  rw [Int.neg_gcd, Int.gcd_neg]
theorem gI_pos {t b : Int} (h : b ≠ 0) : 0 < gI t b := by
  have : 0 < Int.gcd t b := Int.gcd_pos_of_ne_zero_right t h
  unfold gI
  omega
theorem gI_le {t b : Int} (h : b ≠ 0) : (gI t b).natAbs ≤ b.natAbs := by
  have d : Int.gcd t b ∣ b.natAbs := Nat.gcd_dvd_right t.natAbs b.natAbs
  have := Nat.le_of_dvd (by omega) d
  unfold gI
  omega
def spShared : Sp := fun vs H Q _ => ∃ t b : Int, vs = [.int t, .int b] ∧ 0 ≤ b ∧ Q (.int (gI t b)) H
def spLow : Sp := fun vs H Q _ => ∃ t b : Int, vs = [.int t, .int b] ∧ b ≠ 0 ∧ b.natAbs < 2 ^ 4000 ∧ ∀ p, H p = none → Q (.ref p) (upd H p (.tup [.int (lowT t b), .int (lowB t b)]))
/-- two fractions at two places; the tops and bottoms told by f and d -/
def spTwo (K : PySem.W.Frag) (pre : Int → Int → Int → Int → Prop) (f d : Int → Int → Int → Int → Int) : Sp := fun vs H Q _ => ∃ (a c : Addr) (t u v x : Int), vs = [.ref a, .ref c] ∧ SqT K H a [.int t, .int u] ∧ SqT K H c [.int v, .int x] ∧
  pre t u v x ∧ 0 < u ∧ 0 < x ∧ t.natAbs < 2 ^ 1900 ∧ u.natAbs < 2 ^ 1900 ∧ v.natAbs < 2 ^ 1900 ∧ x.natAbs < 2 ^ 1900 ∧ ∀ p, H p = none → Q (.ref p) (upd H p (.tup [.int (lowT (f t u v x) (d t u v x)), .int (lowB (f t u v x) (d t u v x))]))
def spUnder (K : PySem.W.Frag) : Sp := fun vs H Q _ => ∃ (a c : Addr) (t u v x : Int), vs = [.ref a, .ref c] ∧ SqT K H a [.int t, .int u] ∧ SqT K H c [.int v, .int x] ∧
  t.natAbs < 2 ^ 1900 ∧ u.natAbs < 2 ^ 1900 ∧ v.natAbs < 2 ^ 1900 ∧ x.natAbs < 2 ^ 1900 ∧ Q (.bl (decide (t * x < v * u))) H
def absI (t : Int) : Int := if t < 0 then -t else t
def spSize (K : PySem.W.Frag) : Sp := fun vs H Q _ => ∃ (a : Addr) (t u : Int), vs = [.ref a] ∧ SqT K H a [.int t, .int u] ∧ ∀ p, H p = none → Q (.ref p) (upd H p (.tup [.int (absI t), .int u]))
def twoT (m : Int) : Int := if m < 0 then 1 else 2 ^ m.toNat
def twoB (m : Int) : Int := if m < 0 then 2 ^ (-m).toNat else 1
def spTwoTo : Sp := fun vs H Q _ => ∃ m : Int, vs = [.int m] ∧ -400 ≤ m ∧ m ≤ 400 ∧ ∀ p, H p = none → Q (.ref p) (upd H p (.tup [.int (twoT m), .int (twoB m)]))
def spIsFrac : Sp := fun vs H Q _ => ∃ (a : Addr) (t u : Int), vs = [.ref a] ∧ H a = some (.tup [.int t, .int u]) ∧ 1 ≤ u ∧ Q (.bl (decide (gI t u = 1))) H
theorem up {x : Nat} {a b : Nat} (h : x < 2 ^ a) (l : a ≤ b) : x < 2 ^ b := Nat.lt_of_lt_of_le h (Nat.pow_le_pow_right (by decide) l)
theorem up2 {x y : Nat} {a b : Nat} (h : x ≤ y) (h2 : y < 2 ^ a) (l : a ≤ b) : x < 2 ^ b := Nat.lt_of_le_of_lt h (up h2 l)
theorem same_but {H H1 H2 : Hp} {p : Addr} (s : Same H H1) (b : SameBut p H1 H2) (hp : H p = none) : Same H H2 := fun a o e => b a o (ne_of_none e hp) (s a o e)
structure Zs (mg : Str → Option Value) : Prop where
  isinstance : mg "isinstance" = none
  int : mg "int" = none
  bool : mg "bool" = none
  abs : mg "abs" = none
  str : mg "str" = none
  len : mg "len" = none
  range : mg "range" = none
  tuple : mg "tuple" = none
  all : mg "all" = none
section
variable {P : Program} {w : World} {K : PySem.W.Frag} {mg : Str → Option Value} {base : Heap}
theorem sc_is_whole : FnScope ["thing"] ["thing"] (defScope s_is_whole) := ⟨rfl, rfl, rfl, by decide +kernel, rfl, by decide +kernel, by decide +kernel⟩
theorem ok_is_whole {f : Addr} {fd : FuncData} {k : Nat} (F : Fun K "is_whole" "is_whole" s_is_whole f fd) (z : Zs mg) : FnOk P w K mg base CX0 (k + 1) f fd ["thing"] (spWhole K) := by
  refine F.ok sc_is_whole (fun vs H Q E h => ?_) (fun cdv A outer s H vs Q E hr h => ?_)
  · obtain ⟨x, b, rfl, _⟩ := h
    rfl
  · obtain ⟨x, b, rfl, hw, q⟩ := h
    refine ⟨_, (pss_one (ps_ret (pe_and (pe_callB call_isi (by rfl) z.isinstance (by decide +kernel) (pa_cons (pv 0) (pa_cons (pe_bltn (v := .ty "int") (by rfl) z.int (by decide +kernel) rfl) pa_nil))) (pe_one (pe_not (pe_callB call_isi (by rfl) z.isinstance (by decide +kernel) (pa_cons (pv 0) (pa_cons (pe_bltn (v := .ty "bool") (by rfl) z.bool (by decide +kernel) rfl) pa_nil)))))))), ?_⟩
    rcases hw with ⟨i, rfl, rfl⟩ | ⟨c, rfl, rfl⟩ | ⟨rfl, t, ty, kt⟩
    · exact ⟨_, rfl, _, .ty "int", _, _, true, rfl, .ty _, .base (.int i), kit_ty (by decide +kernel), _, rfl, iteT ⟨_, rfl, _, .ty "bool", _, _, false, rfl, .ty _, .base (.int i), kit_ty (by decide +kernel), _, rfl, q⟩⟩
    · exact ⟨_, rfl, _, .ty "int", _, _, true, rfl, .ty _, .base (.bl c), kit_ty (by decide +kernel), _, rfl, iteT ⟨_, rfl, _, .ty "bool", _, _, true, rfl, .ty _, .base (.bl c), kit_ty (by decide +kernel), _, rfl, q⟩⟩
    · exact ⟨_, rfl, _, .ty "int", _, _, false, rfl, .ty _, ty, kit_ty kt, _, rfl, iteF q⟩
theorem sc_shared_divisor : FnScope ["top", "bottom", "one", "other"] ["top", "bottom"] (defScope s_shared_divisor) := ⟨rfl, rfl, rfl, by decide +kernel, rfl, by decide +kernel, by decide +kernel⟩
theorem ok_shared_divisor {f : Addr} {fd : FuncData} {k : Nat} (F : Fun K "shared_divisor" "shared_divisor" s_shared_divisor f fd) (z : Zs mg) : FnOk P w K mg base CX0 (k + 1) f fd ["top", "bottom"] spShared := by
  refine F.ok sc_shared_divisor (fun vs H Q E h => ?_) (fun cdv A outer s H vs Q E hr h => ?_)
  · obtain ⟨t, b, rfl, _⟩ := h
    rfl
  · obtain ⟨t, b, rfl, hb, q⟩ := h
    refine ⟨_, (pss_cons (ps_set (i := 2) sc_shared_divisor.nd rfl (.inl rfl) (pe_callB call_abs (by rfl) z.abs (by decide +kernel) (pa_cons (pv 0) pa_nil)))
      (pss_cons (ps_set (i := 3) sc_shared_divisor.nd rfl (.inl rfl) (pv 1))
      (pss_cons (ps_while PassesOwn.never (pt_truth (pv 3) (by intro _; rfl)) (pss_one (ps_par (i := 2) (j := 3) (by rfl) sc_shared_divisor.nd rfl rfl (by decide) rfl rfl (pa_cons (pv 3) (pa_cons (pe_op op_mod (pv 2) (pv 3)) pa_nil)) (by rfl))))
      (pss_one (ps_ret (pv 2)))))), ?_⟩
    refine ⟨_, rfl, _, rfl, ?_⟩
    refine ⟨_, rfl, ?_⟩
    dsimp only [gName, tSeq]
    refine while_by (fun σ H' => H' = H ∧ ∃ m n : Nat, σ = [some (.int t), some (.int b), some (.int (m : Int)), some (.int (n : Int))] ∧ Nat.gcd m n = Int.gcd t b)
      (fun σ _ => match σ with | [_, _, _, some (.int r)] => r.toNat | _ => 0) ⟨rfl, t.natAbs, b.natAbs, ?_, rfl⟩ (fun σ H1 hP => ?_) (fun σ H Q Q' m hh => ?_)
    · have e1 : (if t < 0 then -t else t) = (t.natAbs : Int) := by split <;> omega
      have e2 : b = (b.natAbs : Int) := by omega
      show [some (V.int t), some (V.int b), some (V.int (if t < 0 then -t else t)), some (V.int b)] = _
      rw [e1, ← e2]
    · obtain ⟨rfl, m, n, rfl, hg⟩ := hP
      refine ⟨_, rfl, _, rfl, ?_⟩
      by_cases hn : n = 0
      · subst hn
        have e : ((((0 : Nat) : Int)) != 0) = false := rfl
        rw [e]
        refine iteF ⟨_, rfl, ?_⟩
        rw [Nat.gcd_zero_right] at hg
        have e2 : (m : Int) = gI t b := by
          unfold gI
          rw [hg]
        rw [e2]
        exact q
      · have e : ((n : Int) != 0) = true := by
          rw [bne_iff_ne]
          omega
        rw [e]
        refine iteT ⟨_, rfl, _, rfl, _, rfl, _, _, rfl, rfl, (by omega), _, _, rfl, ⟨⟨rfl, n, m % n, rfl, ?_⟩, ?_⟩⟩
        · rw [← hg, Nat.gcd_comm n (m % n), ← Nat.gcd_rec n m, Nat.gcd_comm]
        · show ((m : Int) % (n : Int)).toNat < ((n : Int)).toNat
          have := Int.emod_lt_of_pos (m : Int) (show (0 : Int) < n by omega)
          have := Int.emod_nonneg (m : Int) (show (n : Int) ≠ 0 by omega)
          omega
    · obtain ⟨v, e, kk, tv, hq⟩ := hh
      exact ⟨v, e, kk, tv, m _ _ hq⟩
theorem sc_lowest : FnScope ["top", "bottom", "shared"] ["top", "bottom"] (defScope s_lowest) := ⟨rfl, rfl, rfl, by decide +kernel, rfl, by decide +kernel, by decide +kernel⟩
theorem ok_lowest {f : Addr} {fd : FuncData} (F : Fun K "lowest" "lowest" s_lowest f fd) (c_shared_divisor : Cal P w K mg base 1 "shared_divisor" ["top", "bottom"] spShared) : FnOk P w K mg base CX0 2 f fd ["top", "bottom"] spLow := by
  refine F.ok sc_lowest (fun vs H Q E h => ?_) (fun cdv A outer s H vs Q E hr h => ?_)
  · obtain ⟨t, b, rfl, _⟩ := h
    rfl
  · obtain ⟨t, b, rfl, hb, hl, q⟩ := h
    refine ⟨_, (pss_cons (ps_if (pt_cmpR op_lt (pv 1) pe_int (nomark _)) (pss_cons (ps_set (i := 0) sc_lowest.nd rfl (.inl rfl) (pe_un un_neg (pv 0)))
      (pss_one (ps_set (i := 1) sc_lowest.nd rfl (.inl rfl) (pe_un un_neg (pv 1))))) pss_nil)
      (pss_cons (ps_set (i := 2) sc_lowest.nd rfl (.inl rfl) (pe_cal c_shared_divisor hr (pa_cons (pv 0) (pa_cons (pv 1) pa_nil))))
      (pss_one (ps_ret (pe_tup (pa_cons (pe_op op_fdivW (pv 0) (pv 2)) (pa_cons (pe_op op_fdivW (pv 1) (pv 2)) pa_nil))))))), ?_⟩
    have g0 := gI_pos (t := t) hb
    have g1 : (gI t b).natAbs < 2 ^ 4000 := Nat.lt_of_le_of_lt (gI_le hb) hl
    refine ⟨_, rfl, _, _, rfl, rfl, _, rfl, ite2 (fun c => ?_) (fun c => ?_)⟩
    · have hc := toB c
      refine ⟨_, rfl, _, rfl, ?_⟩
      refine ⟨_, rfl, _, rfl, ?_⟩
      refine ⟨_, rfl, _, rfl, -t, -b, rfl, by omega, ?_⟩
      rw [gI_neg]
      refine ⟨_, rfl, _, rfl, _, _, rfl, rfl, wide_div g0 g1 (by decide) (by decide), _, rfl, _, rfl, _, _, rfl, rfl, wide_div g0 g1 (by decide) (by decide), (by show 2 ≤ sizeLine; decide), fun p hp => ?_⟩
      have := q p hp
      unfold lowT lowB at this
      rw [if_pos hc, if_pos hc] at this
      exact this
    · have hc := toNB c
      refine ⟨_, rfl, _, rfl, t, b, rfl, by omega, ?_⟩
      refine ⟨_, rfl, _, rfl, _, _, rfl, rfl, wide_div g0 g1 (by decide) (by decide), _, rfl, _, rfl, _, _, rfl, rfl, wide_div g0 g1 (by decide) (by decide), (by show 2 ≤ sizeLine; decide), fun p hp => ?_⟩
      have := q p hp
      unfold lowT lowB at this
      rw [if_neg hc, if_neg hc] at this
      exact this
theorem sc_times : FnScope ["one", "other"] ["one", "other"] (defScope s_times) := ⟨rfl, rfl, rfl, by decide +kernel, rfl, by decide +kernel, by decide +kernel⟩
theorem ok_times {f : Addr} {fd : FuncData} (F : Fun K "times" "times" s_times f fd) (c_lowest : Cal P w K mg base 2 "lowest" ["top", "bottom"] spLow) : FnOk P w K mg base CX0 3 f fd ["one", "other"] (spTwo K (fun t u v x => True) (fun t u v x => t * v) (fun t u v x => u * x)) := by
  refine F.ok sc_times (fun vs H Q E h => ?_) (fun cdv A outer s H vs Q E hr h => ?_)
  · obtain ⟨a, c, t, u, v, x, rfl, _⟩ := h
    rfl
  · obtain ⟨a, c, t, u, v, x, rfl, ha, hc, pr, hu, hx, b1, b2, b3, b4, q⟩ := h
    refine ⟨_, (pss_one (ps_ret (pe_cal c_lowest hr (pa_cons (pe_op op_mulW (pe_ix ix_tup (pv 0) pe_int (fun _ _ => rfl)) (pe_ix ix_tup (pv 1) pe_int (fun _ _ => rfl))) (pa_cons (pe_op op_mulW (pe_ix ix_tup (pv 0) pe_int (fun _ _ => rfl)) (pe_ix ix_tup (pv 1) pe_int (fun _ _ => rfl))) pa_nil))))), ?_⟩
    have nz : u * x ≠ 0 := Int.mul_ne_zero (by omega) (by omega)
    refine ⟨_, rfl, a, _, 0, .int t, rfl, rfl, ha, a0, _, rfl, c, _, 0, .int v, rfl, rfl, hc, a0, _, _, rfl, rfl, wide_mul b1 b3 (by decide) (by decide) (by decide), _, rfl, a, _, 1, .int u, rfl, rfl, ha, a1, _, rfl, c, _, 1, .int x, rfl, rfl, hc, a1, _, _, rfl, rfl, wide_mul b2 b4 (by decide) (by decide) (by decide), _, _, rfl, nz, ?_, q⟩
    exact Nat.lt_of_lt_of_le (wide_lt b2 b4) (Nat.pow_le_pow_right (by decide) (by decide))
theorem sc_divided : FnScope ["one", "other"] ["one", "other"] (defScope s_divided) := ⟨rfl, rfl, rfl, by decide +kernel, rfl, by decide +kernel, by decide +kernel⟩
theorem ok_divided {f : Addr} {fd : FuncData} (F : Fun K "divided" "divided" s_divided f fd) (c_lowest : Cal P w K mg base 2 "lowest" ["top", "bottom"] spLow) : FnOk P w K mg base CX0 3 f fd ["one", "other"] (spTwo K (fun t u v x => v ≠ 0) (fun t u v x => t * x) (fun t u v x => u * v)) := by
  refine F.ok sc_divided (fun vs H Q E h => ?_) (fun cdv A outer s H vs Q E hr h => ?_)
  · obtain ⟨a, c, t, u, v, x, rfl, _⟩ := h
    rfl
  · obtain ⟨a, c, t, u, v, x, rfl, ha, hc, pr, hu, hx, b1, b2, b3, b4, q⟩ := h
    refine ⟨_, (pss_cons (ps_if (pt_cmpR op_eq (pe_ix ix_tup (pv 1) pe_int (fun _ _ => rfl)) pe_int (nomark _)) (pss_one ps_never) pss_nil)
      (pss_one (ps_ret (pe_cal c_lowest hr (pa_cons (pe_op op_mulW (pe_ix ix_tup (pv 0) pe_int (fun _ _ => rfl)) (pe_ix ix_tup (pv 1) pe_int (fun _ _ => rfl))) (pa_cons (pe_op op_mulW (pe_ix ix_tup (pv 0) pe_int (fun _ _ => rfl)) (pe_ix ix_tup (pv 1) pe_int (fun _ _ => rfl))) pa_nil)))))), ?_⟩
    have nz : u * v ≠ 0 := Int.mul_ne_zero (by omega) pr
    refine ⟨_, rfl, c, _, 0, .int v, rfl, rfl, hc, a0, rfl, _, rfl, ite2 (fun c' => absurd (V.int.inj (toB c')) pr) (fun _ => ?_)⟩
    refine ⟨_, rfl, a, _, 0, .int t, rfl, rfl, ha, a0, _, rfl, c, _, 1, .int x, rfl, rfl, hc, a1, _, _, rfl, rfl, wide_mul b1 b4 (by decide) (by decide) (by decide), _, rfl, a, _, 1, .int u, rfl, rfl, ha, a1, _, rfl, c, _, 0, .int v, rfl, rfl, hc, a0, _, _, rfl, rfl, wide_mul b2 b3 (by decide) (by decide) (by decide), _, _, rfl, nz, ?_, q⟩
    exact Nat.lt_of_lt_of_le (wide_lt b2 b3) (Nat.pow_le_pow_right (by decide) (by decide))
theorem sc_two_to : FnScope ["many"] ["many"] (defScope s_two_to) := ⟨rfl, rfl, rfl, by decide +kernel, rfl, by decide +kernel, by decide +kernel⟩
theorem ok_two_to {f : Addr} {fd : FuncData} (F : Fun K "two_to" "two_to" s_two_to f fd) (z : Zs mg) (c_is_whole : Cal P w K mg base 1 "is_whole" ["thing"] (spWhole K)) (g_GREATEST_POWER : ∃ t, mg "GREATEST_POWER" = some (.int 400 t)) : FnOk P w K mg base CX0 2 f fd ["many"] spTwoTo := by
  refine F.ok sc_two_to (fun vs H Q E h => ?_) (fun cdv A outer s H vs Q E hr h => ?_)
  · obtain ⟨m, rfl, _⟩ := h
    rfl
  · obtain ⟨m, rfl, m0, m1, q⟩ := h
    obtain ⟨tok, gP⟩ := g_GREATEST_POWER
    refine ⟨_, (pss_cons (ps_if (PW.pt (pw_or (pt_not (pt_val (pe_cal c_is_whole hr (pa_cons (pv 0) pa_nil)))) (pw_or1 (pt_cmpR op_gt (pe_callB call_abs (by rfl) z.abs (by decide +kernel) (pa_cons (pv 0) pa_nil)) (pe_glob (v := .int 400) (by rfl) gP ⟨_, rfl⟩) (nomark _))))) (pss_one ps_never) pss_nil)
      (pss_cons (ps_if (pt_cmpR op_lt (pv 0) pe_int (nomark _)) (pss_one (ps_ret (pe_tup (pa_cons pe_int (pa_cons (pe_op op_shl pe_int (pe_un un_neg (pv 0))) pa_nil))))) pss_nil)
      (pss_one (ps_ret (pe_tup (pa_cons (pe_op op_shl pe_int (pv 0)) (pa_cons pe_int pa_nil))))))), ?_⟩
    refine ⟨_, rfl, _, _, rfl, .int m, _, rfl, iteF ⟨_, rfl, _, rfl, _, _, rfl, rfl, _, rfl, ite2 (fun c => ?_) (fun c => ?_)⟩⟩
    · have := toB c
      split at this <;> omega
    · refine ⟨_, rfl, _, _, rfl, rfl, _, rfl, ite2 (fun c2 => ?_) (fun c2 => ?_)⟩
      · have hm := toB c2
        refine ⟨_, rfl, _, rfl, _, _, rfl, rfl, ⟨by omega, by omega, by decide⟩, (by show 2 ≤ sizeLine; decide), fun p hp => ?_⟩
        have e := q p hp
        unfold twoT twoB at e
        rw [if_pos hm, if_pos hm] at e
        show Q (.ref p) (upd H p (.tup [.int 1, .int (1 * 2 ^ (-m).toNat)]))
        rw [Int.one_mul]
        exact e
      · have hm := toNB c2
        refine ⟨_, rfl, _, _, rfl, rfl, ⟨by omega, by omega, by decide⟩, (by show 2 ≤ sizeLine; decide), fun p hp => ?_⟩
        have e := q p hp
        unfold twoT twoB at e
        rw [if_neg hm, if_neg hm] at e
        show Q (.ref p) (upd H p (.tup [.int (1 * 2 ^ m.toNat), .int 1]))
        rw [Int.one_mul]
        exact e
end
end E1

namespace E1
open PySem PySem.Spec PyProof.Rows L2
/-! ### the seven manners -/
inductive Mn where
  | down | up | inn | out | half | even | far
def Mn.str : Mn → Str
  | .down => "down"
  | .up => "up"
  | .inn => "in"
  | .out => "out"
  | .half => "half"
  | .even => "even"
  | .far => "far"
def fDown (t b : Int) : Int := t / b
def fUp (t b : Int) : Int := -(-t / b)
def fHalf (t b : Int) : Int := (2 * t + b) / (2 * b)
def fEven (t b : Int) : Int := if 2 * (fHalf t b * b - t) = b ∧ fHalf t b % 2 ≠ 0 then fHalf t b - 1 else fHalf t b
def fFar (t b : Int) : Int := if t > 0 then fHalf t b else -(fHalf (-t) b)
def fIn (t b : Int) : Int := if t > 0 then fDown t b else fUp t b
def fOut (t b : Int) : Int := if t > 0 then fUp t b else fDown t b
def Mn.f : Mn → Int → Int → Int
  | .down => fDown
  | .up => fUp
  | .inn => fIn
  | .out => fOut
  | .half => fHalf
  | .even => fEven
  | .far => fFar
def lawR (m : Mn) (t b : Int) : Int :=
  match m with
  | .down => t / b
  | .up => if t % b = 0 then t / b else t / b + 1
  | .inn => if t % b = 0 then t / b else t / b + (if t < 0 then 1 else 0)
  | .out => if t % b = 0 then t / b else t / b + (if t > 0 then 1 else 0)
  | .half => if 2 * (t % b) < b then t / b else t / b + 1
  | .even => if 2 * (t % b) < b then t / b else if b < 2 * (t % b) then t / b + 1 else t / b + t / b % 2
  | .far => if 2 * (t % b) < b then t / b else if b < 2 * (t % b) then t / b + 1 else t / b + (if t > 0 then 1 else 0)
theorem div_is {t b q : Int} (hb : 0 < b) (h1 : q * b ≤ t) (h2 : t < q * b + b) : t / b = q := by
  have a1 : q ≤ t / b := Int.le_ediv_of_mul_le hb h1
  have a2 : t / b < q + 1 := Int.ediv_lt_of_lt_mul hb (by rw [Int.add_mul, Int.one_mul]; exact h2)
  omega
theorem dm (t : Int) {b : Int} (hb : 0 < b) : t = t / b * b + t % b ∧ 0 ≤ t % b ∧ t % b < b := by
  refine ⟨?_, Int.emod_nonneg _ (by omega), Int.emod_lt_of_pos _ hb⟩
  have := Int.mul_ediv_add_emod t b
  rw [Int.mul_comm] at this
  omega
theorem fUp_is {t b : Int} (hb : 0 < b) : fUp t b = if t % b = 0 then t / b else t / b + 1 := by
  obtain ⟨e, r0, r1⟩ := dm t hb
  unfold fUp
  generalize t / b = q at *
  generalize t % b = r at *
  split
  · rename_i h
    have := div_is (t := -t) (q := -q) hb (by rw [Int.neg_mul]; omega) (by rw [Int.neg_mul]; omega)
    rw [this]
    omega
  · rename_i h
    have := div_is (t := -t) (q := -q - 1) hb (by rw [Int.sub_mul, Int.neg_mul, Int.one_mul]; omega) (by rw [Int.sub_mul, Int.neg_mul, Int.one_mul]; omega)
    rw [this]
    omega
theorem fHalf_is {t b : Int} (hb : 0 < b) : fHalf t b = if 2 * (t % b) < b then t / b else t / b + 1 := by
  obtain ⟨e, r0, r1⟩ := dm t hb
  unfold fHalf
  generalize t / b = q at *
  generalize t % b = r at *
  have e2 : q * (2 * b) = 2 * (q * b) := Int.mul_left_comm q 2 b
  split
  · rename_i h
    exact div_is (by omega) (by rw [e2]; omega) (by rw [e2]; omega)
  · rename_i h
    exact div_is (by omega) (by rw [Int.add_mul, e2, Int.one_mul]; omega) (by rw [Int.add_mul, e2, Int.one_mul]; omega)
theorem fHalf_neg {t b : Int} (hb : 0 < b) : -(fHalf (-t) b) = if b < 2 * (t % b) then t / b + 1 else t / b := by
  obtain ⟨e, r0, r1⟩ := dm t hb
  unfold fHalf
  generalize t / b = q at *
  generalize t % b = r at *
  have e2 : q * (2 * b) = 2 * (q * b) := Int.mul_left_comm q 2 b
  split
  · rename_i h
    have := div_is (t := 2 * -t + b) (b := 2 * b) (q := -q - 1) (by omega) (by rw [Int.sub_mul, Int.neg_mul, e2, Int.one_mul]; omega) (by rw [Int.sub_mul, Int.neg_mul, e2, Int.one_mul]; omega)
    rw [this]
    omega
  · rename_i h
    have := div_is (t := 2 * -t + b) (b := 2 * b) (q := -q) (by omega) (by rw [Int.neg_mul, e2]; omega) (by rw [Int.neg_mul, e2]; omega)
    rw [this]
    omega
theorem fEven_is {t b : Int} (hb : 0 < b) : fEven t b = lawR .even t b := by
  obtain ⟨e, r0, r1⟩ := dm t hb
  unfold fEven
  rw [fHalf_is hb]
  show _ = if 2 * (t % b) < b then t / b else if b < 2 * (t % b) then t / b + 1 else t / b + t / b % 2
  generalize t / b = q at *
  generalize t % b = r at *
  by_cases h : 2 * r < b
  · rw [if_pos h, if_pos h, if_neg (by intro z; omega)]
  · rw [if_neg h, if_neg h, Int.add_mul, Int.one_mul]
    by_cases h2 : b < 2 * r
    · rw [if_pos h2, if_neg (by intro z; omega)]
    · rw [if_neg h2]
      by_cases h3 : (q + 1) % 2 ≠ 0
      · rw [if_pos ⟨by omega, h3⟩]
        omega
      · rw [if_neg (fun z => h3 z.2)]
        omega
theorem f_lawR (m : Mn) {t b : Int} (hb : 0 < b) : m.f t b = lawR m t b := by
  obtain ⟨e, r0, r1⟩ := dm t hb
  cases m with
  | down => rfl
  | up => exact fUp_is hb
  | inn =>
    show fIn t b = if t % b = 0 then t / b else t / b + (if t < 0 then 1 else 0)
    unfold fIn fDown
    rw [fUp_is hb]
    by_cases h : t > 0
    · rw [if_pos h, if_neg (show ¬ t < 0 by omega)]
      split <;> omega
    · rw [if_neg h]
      by_cases h2 : t < 0
      · rw [if_pos h2]
      · have h3 : t = 0 := by omega
        rw [if_neg h2, h3]
        simp
  | out =>
    show fOut t b = if t % b = 0 then t / b else t / b + (if t > 0 then 1 else 0)
    unfold fOut fDown
    rw [fUp_is hb]
    by_cases h : t > 0
    · rw [if_pos h, if_pos h]
    · rw [if_neg h, if_neg h]
      split <;> omega
  | half => exact fHalf_is hb
  | even => exact fEven_is hb
  | far =>
    show fFar t b = if 2 * (t % b) < b then t / b else if b < 2 * (t % b) then t / b + 1 else t / b + (if t > 0 then 1 else 0)
    unfold fFar
    rw [fHalf_is hb, fHalf_neg hb]
    by_cases h : t > 0
    · rw [if_pos h, if_pos h]
      split
      · rfl
      · split <;> rfl
    · rw [if_neg h, if_neg h]
      by_cases h2 : 2 * (t % b) < b
      · rw [if_pos h2, if_neg (show ¬ b < 2 * (t % b) by omega)]
      · rw [if_neg h2]
        split <;> omega
theorem lt_g {x y g : Int} (hg : 0 < g) : x * g < y * g ↔ x < y := ⟨fun h => Int.lt_of_mul_lt_mul_right h (Int.le_of_lt hg), fun h => Int.mul_lt_mul_of_pos_right h hg⟩
theorem lawR_mul (m : Mn) {t b g : Int} (hb : 0 < b) (hg : 0 < g) : lawR m (t * g) (b * g) = lawR m t b := by
  have e1 : t * g / (b * g) = t / b := Int.mul_ediv_mul_of_pos_left _ _ hg
  have e2 : t * g % (b * g) = t % b * g := by
    rw [Int.mul_comm t g, Int.mul_comm b g, Int.mul_emod_mul_of_pos _ _ hg, Int.mul_comm]
  have c0 : t % b * g = 0 ↔ t % b = 0 := by
    constructor
    · intro h
      rcases Int.mul_eq_zero.mp h with h | h
      · exact h
      · omega
    · intro h
      rw [h, Int.zero_mul]
  have c1 : t * g < 0 ↔ t < 0 := by
    have := lt_g (x := t) (y := 0) hg
    rw [Int.zero_mul] at this
    exact this
  have c2 : t * g > 0 ↔ t > 0 := by
    have := lt_g (x := 0) (y := t) hg
    rw [Int.zero_mul] at this
    exact this
  have c3 : 2 * (t % b * g) < b * g ↔ 2 * (t % b) < b := by
    rw [← Int.mul_assoc]
    exact lt_g hg
  have c4 : b * g < 2 * (t % b * g) ↔ b < 2 * (t % b) := by
    rw [← Int.mul_assoc]
    exact lt_g hg
  cases m <;> simp only [lawR, e1, e2, c0, c1, c2, c3, c4]
theorem lawR_eq (m : Mn) {t b x y : Int} (hb : 0 < b) (hy : 0 < y) (h : x * b = t * y) : lawR m x y = lawR m t b := by
  rw [← lawR_mul m hy hb, h, Int.mul_comm y b, lawR_mul m hb hy]
/-- how far off -/
theorem lawR_off (m : Mn) {t b : Int} (hb : 0 < b) : -b ≤ lawR m t b * b - t ∧ lawR m t b * b - t ≤ b := by
  obtain ⟨e, r0, r1⟩ := dm t hb
  have key : ∀ q' : Int, (q' = t / b ∨ q' = t / b + 1) → -b ≤ q' * b - t ∧ q' * b - t ≤ b := fun q' h => by
    generalize t / b = q at *
    generalize t % b = r at *
    rcases h with rfl | rfl
    · omega
    · rw [Int.add_mul, Int.one_mul]
      omega
  refine key _ ?_
  clear key
  cases m <;> simp only [lawR] <;> (generalize t / b = q at *) <;> (repeat' split) <;> (first | omega | exact .inl trivial)
theorem lawR_near {m : Mn} {t b : Int} (hb : 0 < b) (hm : m = .half ∨ m = .even ∨ m = .far) : -b ≤ 2 * (lawR m t b * b - t) ∧ 2 * (lawR m t b * b - t) ≤ b := by
  obtain ⟨e, r0, r1⟩ := dm t hb
  have key : ∀ q' : Int, ((q' = t / b ∧ 2 * (t % b) ≤ b) ∨ (q' = t / b + 1 ∧ b ≤ 2 * (t % b))) → -b ≤ 2 * (q' * b - t) ∧ 2 * (q' * b - t) ≤ b := fun q' h => by
    generalize t / b = q at *
    generalize t % b = r at *
    rcases h with ⟨rfl, h⟩ | ⟨rfl, h⟩
    · omega
    · rw [Int.add_mul, Int.one_mul]
      omega
  refine key _ ?_
  clear key
  rcases hm with rfl | rfl | rfl <;> simp only [lawR] <;> (generalize t / b = q at *) <;> (repeat' split) <;> omega

def spRnd (g : Int → Int → Int) : Sp := fun vs H Q _ => ∃ t b : Int, vs = [.int t, .int b] ∧ 0 < b ∧ t.natAbs < 2 ^ 4000 ∧ b.natAbs < 2 ^ 4000 ∧ Q (.int (g t b)) H
structure Mans (P : Program) (w : World) (K : PySem.W.Frag) (mg : Str → Option Value) (base : Heap) (dM : Addr) (es : Array DictEntry) (n : Nat) : Prop where
  gm : mg "MANNERS" = some (.ref dM)
  D : KDict K w dM es n
  at_ : ∀ m : Mn, ∃ (f : Addr) (fd : FuncData), PySem.W.nsIn K dM m.str = some (some (.ref f)) ∧ PySem.W.keepIn K (.ref f) = true ∧ Binds K fd ["top", "bottom"] [] ∧ FnOk P w K mg base CX0 2 f fd ["top", "bottom"] (spRnd m.f)
/-- whether a thing is a manner -/
def MannerIs (K : PySem.W.Frag) (H : Hp) (dM : Addr) (x : V) (b : Bool) : Prop := (∃ m : Mn, x = .str m.str ∧ b = true) ∨ (∃ z : Str, x = .str z ∧ PySem.W.nsIn K dM z = some none ∧ b = false) ∨ (b = false ∧ ∃ t : String, TyX K H x (.type t) ∧ kitB t "str" = some false)
def spManner (K : PySem.W.Frag) (dM : Addr) : Sp := fun vs H Q _ => ∃ (x : V) (b : Bool), vs = [x] ∧ MannerIs K H dM x b ∧ Q (.bl b) H
def spRounded (K : PySem.W.Frag) : Sp := fun vs H Q _ => ∃ (a : Addr) (m : Mn) (t b : Int), vs = [.ref a, .str m.str] ∧ SqT K H a [.int t, .int b] ∧ 0 < b ∧ t.natAbs < 2 ^ 4000 ∧ b.natAbs < 2 ^ 4000 ∧ Q (.int (m.f t b)) H
theorem two_b {b : Int} (h : b.natAbs < 2 ^ 4000) : (2 * b).natAbs < 2 ^ 4001 := by
  rw [Int.natAbs_mul, Nat.pow_succ, Nat.mul_comm]
  exact Nat.mul_lt_mul_of_pos_right h (by decide)
theorem half_le {t b : Int} (ht : t.natAbs < 2 ^ 4000) (hb : b.natAbs < 2 ^ 4000) : (fHalf t b).natAbs < 2 ^ 4003 := by
  unfold fHalf
  refine Nat.lt_of_le_of_lt (Int.natAbs_ediv_le_natAbs _ _) ?_
  have h1 : (2 * t + b).natAbs ≤ 2 * t.natAbs + b.natAbs := by omega
  have e : 2 ^ 4003 = 2 ^ 4000 * 8 := Nat.pow_add 2 4000 3
  rw [e]
  generalize 2 ^ 4000 = N at *
  omega
section
variable {P : Program} {w : World} {K : PySem.W.Frag} {mg : Str → Option Value} {base : Heap}
theorem sc_downward : FnScope ["top", "bottom"] ["top", "bottom"] (defScope s_downward) := ⟨rfl, rfl, rfl, by decide +kernel, rfl, by decide +kernel, by decide +kernel⟩
theorem ok_downward {f : Addr} {fd : FuncData} {k : Nat} (F : Fun K "downward" "downward" s_downward f fd) : FnOk P w K mg base CX0 (k + 1) f fd ["top", "bottom"] (spRnd fDown) := by
  refine F.ok sc_downward (fun vs H Q E h => ?_) (fun cdv A outer s H vs Q E hr h => ?_)
  · obtain ⟨t, b, rfl, _⟩ := h
    rfl
  · obtain ⟨t, b, rfl, hb, ht, hl, q⟩ := h
    refine ⟨_, (pss_one (ps_ret (pe_op op_fdivW (pv 0) (pv 1)))), ?_⟩
    exact ⟨_, rfl, _, rfl, _, _, rfl, rfl, wide_div hb hl (by decide) (by decide), q⟩
theorem sc_upward : FnScope ["top", "bottom"] ["top", "bottom"] (defScope s_upward) := ⟨rfl, rfl, rfl, by decide +kernel, rfl, by decide +kernel, by decide +kernel⟩
theorem ok_upward {f : Addr} {fd : FuncData} {k : Nat} (F : Fun K "upward" "upward" s_upward f fd) : FnOk P w K mg base CX0 (k + 1) f fd ["top", "bottom"] (spRnd fUp) := by
  refine F.ok sc_upward (fun vs H Q E h => ?_) (fun cdv A outer s H vs Q E hr h => ?_)
  · obtain ⟨t, b, rfl, _⟩ := h
    rfl
  · obtain ⟨t, b, rfl, hb, ht, hl, q⟩ := h
    refine ⟨_, (pss_one (ps_ret (pe_un un_neg (pe_op op_fdivW (pe_un un_neg (pv 0)) (pv 1))))), ?_⟩
    exact ⟨_, rfl, _, rfl, _, rfl, _, _, rfl, rfl, wide_div hb hl (by decide) (by decide), _, rfl, q⟩
theorem sc_inward : FnScope ["top", "bottom"] ["top", "bottom"] (defScope s_inward) := ⟨rfl, rfl, rfl, by decide +kernel, rfl, by decide +kernel, by decide +kernel⟩
theorem ok_inward {f : Addr} {fd : FuncData} (F : Fun K "inward" "inward" s_inward f fd) (c_downward : Cal P w K mg base 1 "downward" ["top", "bottom"] (spRnd fDown)) (c_upward : Cal P w K mg base 1 "upward" ["top", "bottom"] (spRnd fUp)) : FnOk P w K mg base CX0 2 f fd ["top", "bottom"] (spRnd fIn) := by
  refine F.ok sc_inward (fun vs H Q E h => ?_) (fun cdv A outer s H vs Q E hr h => ?_)
  · obtain ⟨t, b, rfl, _⟩ := h
    rfl
  · obtain ⟨t, b, rfl, hb, ht, hl, q⟩ := h
    refine ⟨_, (pss_one (ps_ret (pe_ifExp (pt_cmpR op_gt (pv 0) pe_int (nomark _)) (pe_cal c_downward hr (pa_cons (pv 0) (pa_cons (pv 1) pa_nil))) (pe_cal c_upward hr (pa_cons (pv 0) (pa_cons (pv 1) pa_nil)))))), ?_⟩
    refine ⟨_, rfl, _, _, rfl, rfl, _, rfl, ite2 (fun c => ?_) (fun c => ?_)⟩
    · refine ⟨_, rfl, _, rfl, t, b, rfl, hb, ht, hl, ?_⟩
      have hc : t > 0 := toB c
      unfold fIn at q
      rw [if_pos hc] at q
      exact q
    · refine ⟨_, rfl, _, rfl, t, b, rfl, hb, ht, hl, ?_⟩
      have hc : ¬ t > 0 := toNB c
      unfold fIn at q
      rw [if_neg hc] at q
      exact q
theorem sc_outward : FnScope ["top", "bottom"] ["top", "bottom"] (defScope s_outward) := ⟨rfl, rfl, rfl, by decide +kernel, rfl, by decide +kernel, by decide +kernel⟩
theorem ok_outward {f : Addr} {fd : FuncData} (F : Fun K "outward" "outward" s_outward f fd) (c_downward : Cal P w K mg base 1 "downward" ["top", "bottom"] (spRnd fDown)) (c_upward : Cal P w K mg base 1 "upward" ["top", "bottom"] (spRnd fUp)) : FnOk P w K mg base CX0 2 f fd ["top", "bottom"] (spRnd fOut) := by
  refine F.ok sc_outward (fun vs H Q E h => ?_) (fun cdv A outer s H vs Q E hr h => ?_)
  · obtain ⟨t, b, rfl, _⟩ := h
    rfl
  · obtain ⟨t, b, rfl, hb, ht, hl, q⟩ := h
    refine ⟨_, (pss_one (ps_ret (pe_ifExp (pt_cmpR op_gt (pv 0) pe_int (nomark _)) (pe_cal c_upward hr (pa_cons (pv 0) (pa_cons (pv 1) pa_nil))) (pe_cal c_downward hr (pa_cons (pv 0) (pa_cons (pv 1) pa_nil)))))), ?_⟩
    refine ⟨_, rfl, _, _, rfl, rfl, _, rfl, ite2 (fun c => ?_) (fun c => ?_)⟩
    · refine ⟨_, rfl, _, rfl, t, b, rfl, hb, ht, hl, ?_⟩
      have hc : t > 0 := toB c
      unfold fOut at q
      rw [if_pos hc] at q
      exact q
    · refine ⟨_, rfl, _, rfl, t, b, rfl, hb, ht, hl, ?_⟩
      have hc : ¬ t > 0 := toNB c
      unfold fOut at q
      rw [if_neg hc] at q
      exact q
theorem sc_nearest_greater : FnScope ["top", "bottom"] ["top", "bottom"] (defScope s_nearest_greater) := ⟨rfl, rfl, rfl, by decide +kernel, rfl, by decide +kernel, by decide +kernel⟩
theorem ok_nearest_greater {f : Addr} {fd : FuncData} {k : Nat} (F : Fun K "nearest_greater" "nearest_greater" s_nearest_greater f fd) : FnOk P w K mg base CX0 (k + 1) f fd ["top", "bottom"] (spRnd fHalf) := by
  refine F.ok sc_nearest_greater (fun vs H Q E h => ?_) (fun cdv A outer s H vs Q E hr h => ?_)
  · obtain ⟨t, b, rfl, _⟩ := h
    rfl
  · obtain ⟨t, b, rfl, hb, ht, hl, q⟩ := h
    refine ⟨_, (pss_one (ps_ret (pe_op op_fdivW (pe_op op_add (pe_op op_mul pe_int (pv 0)) (pv 1)) (pe_op op_mul pe_int (pv 1))))), ?_⟩
    exact ⟨_, rfl, _, _, rfl, rfl, .inl ⟨by decide, by decide⟩, _, rfl, _, _, rfl, rfl, _, rfl, _, _, rfl, rfl, .inl ⟨by decide, by decide⟩, _, _, rfl, rfl, wide_div (by omega) (two_b hl) (by decide) (by decide), q⟩
theorem sc_nearest_even : FnScope ["top", "bottom", "near", "halfway"] ["top", "bottom"] (defScope s_nearest_even) := ⟨rfl, rfl, rfl, by decide +kernel, rfl, by decide +kernel, by decide +kernel⟩
theorem ok_nearest_even {f : Addr} {fd : FuncData} (F : Fun K "nearest_even" "nearest_even" s_nearest_even f fd) (c_nearest_greater : Cal P w K mg base 1 "nearest_greater" ["top", "bottom"] (spRnd fHalf)) : FnOk P w K mg base CX0 2 f fd ["top", "bottom"] (spRnd fEven) := by
  refine F.ok sc_nearest_even (fun vs H Q E h => ?_) (fun cdv A outer s H vs Q E hr h => ?_)
  · obtain ⟨t, b, rfl, _⟩ := h
    rfl
  · obtain ⟨t, b, rfl, hb, ht, hl, q⟩ := h
    have hn := half_le ht hl
    refine ⟨_, (pss_cons (ps_set (i := 2) sc_nearest_even.nd rfl (.inl rfl) (pe_cal c_nearest_greater hr (pa_cons (pv 0) (pa_cons (pv 1) pa_nil))))
      (pss_cons (ps_set (i := 3) sc_nearest_even.nd rfl (.inl rfl) (pe_cmpR op_eq (pe_op op_mul pe_int (pe_op op_sub (pe_op op_mulW (pv 2) (pv 1)) (pv 0))) (pv 1) (nomark _)))
      (pss_one (ps_ret (pe_ifExp (PW.pt (pw_and (pt_val (pv 3)) (pw_and1 (pt_truth (pe_op op_and (pv 2) pe_int) (by intro _; rfl))))) (pe_op op_sub (pv 2) pe_int) (pv 2)))))), ?_⟩
    refine ⟨_, rfl, _, rfl, t, b, rfl, hb, ht, hl, ?_⟩
    unfold fEven at q
    generalize fHalf t b = n at *
    refine ⟨_, rfl, _, rfl, _, _, rfl, rfl, wide_mul hn hl (by decide) (by decide) (by decide), _, rfl, _, _, rfl, rfl, _, _, rfl, rfl, .inl ⟨by decide, by decide⟩, _, rfl, rfl, ?_⟩
    have eB : (decide (V.int (2 * (n * b - t)) = V.int b)) = decide (2 * (n * b - t) = b) := by
      by_cases h : 2 * (n * b - t) = b
      · rw [h, decide_eq_true rfl, decide_eq_true rfl]
      · rw [decide_eq_false h, decide_eq_false (fun z => h (V.int.inj z))]
    rw [eB]
    by_cases hc : 2 * (n * b - t) = b
    · rw [decide_eq_true hc]
      refine ⟨_, rfl, _, rfl, iteT ⟨_, rfl, _, _, rfl, rfl, _, rfl, ?_⟩⟩
      rw [PyProof.Rows.bitAnd_m1]
      by_cases h2 : n % 2 ≠ 0
      · have e : (n % 2 != 0) = true := by
          rw [bne_iff_ne]
          exact h2
        rw [e]
        rw [if_pos ⟨hc, h2⟩] at q
        exact iteT ⟨_, rfl, _, _, rfl, rfl, q⟩
      · have e : (n % 2 != 0) = false := by
          have : n % 2 = 0 := by omega
          rw [this]
          rfl
        rw [e]
        rw [if_neg (fun z => h2 z.2)] at q
        exact iteF ⟨_, rfl, q⟩
    · rw [decide_eq_false hc]
      rw [if_neg (fun z => hc z.1)] at q
      exact ⟨_, rfl, _, rfl, iteF (iteF ⟨_, rfl, q⟩)⟩
theorem sc_nearest_far : FnScope ["top", "bottom"] ["top", "bottom"] (defScope s_nearest_far) := ⟨rfl, rfl, rfl, by decide +kernel, rfl, by decide +kernel, by decide +kernel⟩
theorem ok_nearest_far {f : Addr} {fd : FuncData} (F : Fun K "nearest_far" "nearest_far" s_nearest_far f fd) (c_nearest_greater : Cal P w K mg base 1 "nearest_greater" ["top", "bottom"] (spRnd fHalf)) : FnOk P w K mg base CX0 2 f fd ["top", "bottom"] (spRnd fFar) := by
  refine F.ok sc_nearest_far (fun vs H Q E h => ?_) (fun cdv A outer s H vs Q E hr h => ?_)
  · obtain ⟨t, b, rfl, _⟩ := h
    rfl
  · obtain ⟨t, b, rfl, hb, ht, hl, q⟩ := h
    refine ⟨_, (pss_one (ps_ret (pe_ifExp (pt_cmpR op_gt (pv 0) pe_int (nomark _)) (pe_cal c_nearest_greater hr (pa_cons (pv 0) (pa_cons (pv 1) pa_nil))) (pe_un un_neg (pe_cal c_nearest_greater hr (pa_cons (pe_un un_neg (pv 0)) (pa_cons (pv 1) pa_nil))))))), ?_⟩
    refine ⟨_, rfl, _, _, rfl, rfl, _, rfl, ite2 (fun c => ?_) (fun c => ?_)⟩
    · refine ⟨_, rfl, _, rfl, t, b, rfl, hb, ht, hl, ?_⟩
      have hc : t > 0 := toB c
      unfold fFar at q
      rw [if_pos hc] at q
      exact q
    · refine ⟨_, rfl, _, rfl, _, rfl, -t, b, rfl, hb, by rw [Int.natAbs_neg]; exact ht, hl, _, rfl, ?_⟩
      have hc : ¬ t > 0 := toNB c
      unfold fFar at q
      rw [if_neg hc] at q
      exact q
theorem sc_is_manner : FnScope ["thing"] ["thing"] (defScope s_is_manner) := ⟨rfl, rfl, rfl, by decide +kernel, rfl, by decide +kernel, by decide +kernel⟩
theorem ok_is_manner {f : Addr} {fd : FuncData} {k : Nat} {dM : Addr} {es : Array DictEntry} {n : Nat} (M : Mans P w K mg base dM es n) (F : Fun K "is_manner" "is_manner" s_is_manner f fd) (z : Zs mg) : FnOk P w K mg base CX0 (k + 1) f fd ["thing"] (spManner K dM) := by
  refine F.ok sc_is_manner (fun vs H Q E h => ?_) (fun cdv A outer s H vs Q E hr h => ?_)
  · obtain ⟨x, b, rfl, _⟩ := h
    rfl
  · obtain ⟨x, b, rfl, hm, q⟩ := h
    refine ⟨_, (pss_one (ps_ret (pe_and (pe_callB call_isi (by rfl) z.isinstance (by decide +kernel) (pa_cons (pv 0) (pa_cons (pe_bltn (v := .ty "str") (by rfl) z.str (by decide +kernel) rfl) pa_nil))) (pe_one (pe_cmpR (op_in_kd M.D) (pv 0) (pe_glob (v := .ref dM) (by rfl) M.gm rfl) (by rfl)))))), ?_⟩
    rcases hm with ⟨m, rfl, rfl⟩ | ⟨y, rfl, ny, rfl⟩ | ⟨rfl, t, ty, kt⟩
    · obtain ⟨fm, fdm, h1, _⟩ := M.at_ m
      exact ⟨_, rfl, _, .ty "str", _, _, true, rfl, .ty _, .base (.str _), kit_ty (by decide +kernel), _, rfl, iteT ⟨_, rfl, _, _, rfl, rfl, h1, q⟩⟩
    · exact ⟨_, rfl, _, .ty "str", _, _, true, rfl, .ty _, .base (.str _), kit_ty (by decide +kernel), _, rfl, iteT ⟨_, rfl, _, _, rfl, rfl, ny, q⟩⟩
    · exact ⟨_, rfl, _, .ty "str", _, _, false, rfl, .ty _, ty, kit_ty kt, _, rfl, iteF q⟩
theorem sc_rounded : FnScope ["value", "manner", "top", "bottom", "rule"] ["value", "manner"] (defScope s_rounded) := ⟨rfl, rfl, rfl, by decide +kernel, rfl, by decide +kernel, by decide +kernel⟩
theorem ok_rounded {f : Addr} {fd : FuncData} {dvs : List V} {dM : Addr} {es : Array DictEntry} {n : Nat} (M : Mans P w K mg base dM es n) (F : FunD K "rounded" "rounded" (defArgs s_rounded) (defBody s_rounded) (defScope s_rounded) dvs [] f fd) (c_is_manner : Cal P w K mg base 1 "is_manner" ["thing"] (spManner K dM)) : FnOk P w K mg base CX0 3 f fd ["value", "manner"] (spRounded K) := by
  refine F.ok sc_rounded (fun vs H Q E h => ?_) (fun cdv A outer s H vs Q E hr h => ?_)
  · obtain ⟨a, m, t, b, rfl, _⟩ := h
    rfl
  · obtain ⟨a, m, t, b, rfl, ha, hb, ht, hl, q⟩ := h
    obtain ⟨fm, fdm, h1, hK, hB, hF⟩ := M.at_ m
    refine ⟨_, PSs.nox (pss_cons (ps_if (pt_not (pt_val (pe_cal c_is_manner hr (pa_cons (pv 1) pa_nil)))) (pss_one ps_never) pss_nil)
      (pss_cons (ps_asg (pv 0) (pg_tup (by rfl) (pgs_cons (pg_name (i := 2) sc_rounded.nd rfl (.inl rfl)) (pgs_cons (pg_name (i := 3) sc_rounded.nd rfl (.inl rfl)) pgs_nil))))
      (pss_cons (ps_set (i := 4) sc_rounded.nd rfl (.inl rfl) (pe_ix ix_kdict (pe_glob (v := .ref dM) (by rfl) M.gm rfl) (pv 1) (fun _ _ => rfl)))
      (pss_one (ps_ret (pe_callL (i := 4) hF hr rfl (Or.inl rfl) hK hB .nil pass0 (pa_cons (pv 2) (pa_cons (pv 3) pa_nil)))))))), ?_⟩
    refine ⟨_, rfl, _, true, rfl, .inl ⟨m, rfl, rfl⟩, _, rfl, iteF ?_⟩
    refine ⟨_, rfl, a, _, rfl, ha, rfl, _, _, rfl, _, _, rfl, rfl, ?_⟩
    refine ⟨_, rfl, dM, m.str, .ref fm, rfl, rfl, ⟨es, n, _, M.D.at_, M.D.lit, h1, rfl⟩, ?_⟩
    exact ⟨rfl, _, rfl, _, rfl, t, b, rfl, hb, ht, hl, q⟩
end
end E1

namespace E1
open PySem PySem.Spec PyProof.Rows L2
abbrev s_Form___init__ : Stmt := inClass (topS 34) 0
abbrev s_Form_least : Stmt := inClass (topS 34) 1
abbrev s_Form_greatest : Stmt := inClass (topS 34) 2
abbrev s_Form_has : Stmt := inClass (topS 34) 3
abbrev s_Form_step : Stmt := inClass (topS 34) 4
abbrev s_Form_slack : Stmt := inClass (topS 34) 5
abbrev s_Form_value : Stmt := inClass (topS 34) 6
abbrev s_Form_word_for : Stmt := inClass (topS 34) 7
abbrev s_Form_ended : Stmt := inClass (topS 34) 8
abbrev s_Form_kept : Stmt := inClass (topS 34) 9
abbrev s_Form_bits : Stmt := inClass (topS 34) 11
abbrev s_Form_is_bits : Stmt := inClass (topS 34) 12
abbrev s_Form_word_of : Stmt := inClass (topS 34) 13
abbrev s_Form_added : Stmt := inClass (topS 34) 14
abbrev s_Form___eq__ : Stmt := inClass (topS 34) 15
abbrev s_Form___str__ : Stmt := inClass (topS 34) 16
abbrev s_Form___repr__ : Stmt := inClass (topS 34) 17

/-! ### objects: methods, making -/
def CalM (P : Program) (w : World) (K : PySem.W.Frag) (mg : Str → Option Value) (base : Heap) (k : Nat) (C : Addr) (m : Str) (ps : List Str) (sp : Sp) : Prop :=
  ∃ (f : Addr) (fd : FuncData), Meth K C m f ∧ Binds K fd ps [] ∧ FnOk P w K mg base CX0 k f fd ps sp
def CalMK (P : Program) (w : World) (K : PySem.W.Frag) (mg : Str → Option Value) (base : Heap) (k : Nat) (C : Addr) (m : Str) (ps ks : List Str) (gV : List V → List V → List V) (sp : Sp) : Prop :=
  ∃ (f : Addr) (fd : FuncData) (g : List Value → List Value → List Value), Meth K C m f ∧ KBn K fd ps 1 ks g gV ∧ FnOk P w K mg base CX0 k f fd ps sp
def CalC (P : Program) (w : World) (K : PySem.W.Frag) (mg : Str → Option Value) (base : Heap) (k : Nat) (x : Str) (C : Addr) (ps : List Str) (dvs : List V) (sp : Sp) : Prop :=
  ∃ (f : Addr) (fd : FuncData) (ds : List Value), Mk K C f ∧ mg x = some (.ref C) ∧ Vals dvs ds ∧ Binds K fd ps ds ∧ FnOk P w K mg base CX0 k f fd ps sp
section
variable {X : Cx} {k j : Nat} {C : Addr} {m x : Str} {ps ks : List Str} {dvs : List V} {sp : Sp} {o e : Expr} {es : List Expr} {ta : TE} {t tk : TA} {apos p pos : Pos} {gV : List V → List V → List V} {kws : List Keyword}
theorem pe_calm {pl : Sem Bool} (he : PE X o ta) (c : Cls X.K C) (h : CalM X.prog X.w X.K X.mg X.base k C m ps sp) (hr : Room j X.A) (ha : PA X (e :: es) t) (hle : k ≤ j := by decide)
    (hst : starEach (e :: es) X.env = (false, eval e X.env) :: starEach es X.env := by rfl) (hpl : (backTo pos (starEach es X.env)).any (·.1) = false := by rfl)
    (ht : eval (.Call (.Attribute o m apos) (e :: es) [] pos) X.env = (do
      let ov ← eval o X.env
      standAt apos.atName
      let (f, first) ← holding [ov] (getMethod ov m pl)
      callWith pos f first (backTo pos (starEach (e :: es) X.env)) (backToKw pos (keywordEach [] X.env))) := by rfl) :
    PE X (.Call (.Attribute o m apos) (e :: es) [] pos) (tMeth C m sp [] E0 ta t) := by
  obtain ⟨f, fd, h1, h2, h3⟩ := h
  exact pe_meth he c h1 h3 (hr.mono hle) h2 .nil pass0 ha hst hpl ht
theorem pe_calm0 {pl : Sem Bool} (he : PE X o ta) (c : Cls X.K C) (h : CalM X.prog X.w X.K X.mg X.base k C m ps sp) (hr : Room j X.A) (hle : k ≤ j := by decide)
    (ht : eval (.Call (.Attribute o m apos) [] [] pos) X.env = (do
      let ov ← eval o X.env
      standAt apos.atName
      let (f, first) ← holding [ov] (getMethod ov m pl)
      callWith pos f first (backTo pos (starEach [] X.env)) (backToKw pos (keywordEach [] X.env))) := by rfl) :
    PE X (.Call (.Attribute o m apos) [] [] pos) (tMeth C m sp [] E0 ta tNil) := by
  obtain ⟨f, fd, h1, h2, h3⟩ := h
  exact pe_meth0 he c h1 h3 (hr.mono hle) h2 .nil pass0 ht
def tMethK (C : Addr) (m : Str) (n : Nat) (sp : Sp) (gV : List V → List V → List V) (ta : TE) (tk : TA) : TE := fun σ H Q => ta σ H fun x H1 => ∃ a dx fs, x = .ref a ∧ H1 a = some (.ins C dx fs) ∧ fs.lookup m = none ∧
  tk σ H1 fun zs H2 => zs.length = n ∧ sp (gV [x] zs) H2 Q E0
theorem pe_calmk0 {pl : Sem Bool} (he : PE X o ta) (c : Cls X.K C) (h : CalMK X.prog X.w X.K X.mg X.base k C m ps ks gV sp) (hr : Room j X.A) (hkw : PK X kws tk) (hle : k ≤ j := by decide)
    (hall : (backToKw pos (keywordEach kws X.env)).all (·.1.isSome) = true := by rfl) (hks : (backToKw pos (keywordEach kws X.env)).filterMap (·.1) = ks := by rfl)
    (hpl : ((backTo pos (starEach [] X.env)).any (·.1) || (backToKw pos (keywordEach kws X.env)).any (·.1.isNone)) = false := by rfl)
    (ht : eval (.Call (.Attribute o m apos) [] kws pos) X.env = (do
      let ov ← eval o X.env
      standAt apos.atName
      let (f, first) ← holding [ov] (getMethod ov m pl)
      callWith pos f first (backTo pos (starEach [] X.env)) (backToKw pos (keywordEach kws X.env))) := by rfl) :
    PE X (.Call (.Attribute o m apos) [] kws pos) (tMethK C m ks.length sp gV ta tk) := by
  obtain ⟨f, fd, g, hm, hb, F⟩ := h
  refine ⟨fun pins s σ H Q I h => ?_⟩
  refine PySem.W.methodCall_KW (pl := pl) (thn (he.run pins s σ H _ I h) fun u s1 ⟨x, H1, I1, rx, a, dx, fs, ex, ea, l, q⟩ => ?_) ht
  subst ex
  obtain rfl : u = Value.ref a := rx
  refine getmeth_ok I1 ea c hm l ?_
  refine PySem.W.callWith_KW0 (first := [.ref a]) (h₀ := X.base) I.ok.mod.kin hm.kp hall (thn (hkw.run pos pins s1 σ H1 _ I1 q) fun ws s2 ⟨zs, H2, I2, rz, l2, q2⟩ => ⟨I2.kIn, ?_⟩) hpl
  rw [hks]
  exact run_fnN (vs := [.ref a]) (us := [.ref a]) F (hr.mono hle) hb pass0 I2 (.cons rfl .nil) rz rfl l2 q2
theorem pe_calc (h : CalC X.prog X.w X.K X.mg X.base k x C ps dvs sp) (hr : Room j X.A) (ha : PA X (e :: es) t) (hle : k + 1 ≤ j := by decide) (hg : Gl X x := by rfl)
    (hdb : (x == ("__debug__" : Str)) = false := by decide) (he : starEach (e :: es) X.env = (false, eval e X.env) :: starEach es X.env := by rfl) (hpl : (backTo pos (starEach es X.env)).any (·.1) = false := by rfl) :
    PE X (.Call (.Name x p) (e :: es) [] pos) (tMake C sp dvs E0 t) := by
  obtain ⟨f, fd, ds, h1, h2, h3, h4, h5⟩ := h
  exact pe_make h1 h5 (hr.mono hle) hg h2 h4 h3 pass0 ha hdb he hpl
end
/-! ### forms -/
def wV : Option Int → V
  | none => .non
  | some w => .int w
def endS : Bool → Str
  | true => "stop"
  | false => "wrap"
def flds (w : Option Int) (pt : Int) (m : Mn) (st : Bool) : List (Str × V) := [("width", wV w), ("point", .int pt), ("manner", .str m.str), ("ends", .str (endS st))]
def WOk (w : Option Int) : Prop := ∀ x, w = some x → 2 ≤ x ∧ x ≤ 64
structure FormAt (C : Addr) (H : Hp) (p : Addr) (w : Option Int) (pt : Int) (m : Mn) (st : Bool) : Prop where
  ob : ∃ dx, H p = some (.ins C dx (flds w pt m st))
  wo : WOk w
  p0 : -64 ≤ pt
  p1 : pt ≤ 64
theorem FormAt.same {C : Addr} {H H' : Hp} {p : Addr} {w : Option Int} {pt : Int} {m : Mn} {st : Bool} (f : FormAt C H p w pt m st) (s : Same H H') : FormAt C H' p w pt m st := by
  obtain ⟨⟨dx, h⟩, a, b, c⟩ := f
  exact ⟨⟨dx, s _ _ h⟩, a, b, c⟩
theorem nPW : (("point" : Str) == "width") = false := by decide +kernel
theorem nMW : (("manner" : Str) == "width") = false := by decide +kernel
theorem nMP : (("manner" : Str) == "point") = false := by decide +kernel
theorem nEW : (("ends" : Str) == "width") = false := by decide +kernel
theorem nEP : (("ends" : Str) == "point") = false := by decide +kernel
theorem nEM : (("ends" : Str) == "manner") = false := by decide +kernel
section
variable {w : Option Int} {pt : Int} {m : Mn} {st : Bool}
theorem fl_w : (flds w pt m st).lookup ("width" : Str) = some (wV w) := by
  unfold flds
  rw [List.lookup_cons, beq_self_eq_true]
theorem fl_p : (flds w pt m st).lookup ("point" : Str) = some (.int pt) := by
  unfold flds
  rw [List.lookup_cons, nPW, List.lookup_cons, beq_self_eq_true]
theorem fl_m : (flds w pt m st).lookup ("manner" : Str) = some (.str m.str) := by
  unfold flds
  rw [List.lookup_cons, nMW, List.lookup_cons, nMP, List.lookup_cons, beq_self_eq_true]
theorem fl_e : (flds w pt m st).lookup ("ends" : Str) = some (.str (endS st)) := by
  unfold flds
  rw [List.lookup_cons, nEW, List.lookup_cons, nEP, List.lookup_cons, nEM, List.lookup_cons, beq_self_eq_true]
theorem fl_no {x : Str} (h : [(x == "width"), (x == "point"), (x == "manner"), (x == "ends")] = [false, false, false, false]) : (flds w pt m st).lookup x = none := by
  have h1 : (x == "width") = false := (List.cons.inj h).1
  have h2 : (x == "point") = false := (List.cons.inj (List.cons.inj h).2).1
  have h3 : (x == "manner") = false := (List.cons.inj (List.cons.inj (List.cons.inj h).2).2).1
  have h4 : (x == "ends") = false := (List.cons.inj (List.cons.inj (List.cons.inj (List.cons.inj h).2).2).2).1
  unfold flds
  rw [List.lookup_cons, h1, List.lookup_cons, h2, List.lookup_cons, h3, List.lookup_cons, h4]
  rfl
theorem ne_of_beq {a b : Str} (h : (b == a) = false) : ¬ a = b := fun e => by
  rw [e, beq_self_eq_true] at h
  cases h
theorem fl_put {a b c d : V} : putF "ends" d (putF "manner" c (putF "point" b (putF "width" a []))) = [(("width" : Str), a), ("point", b), ("manner", c), ("ends", d)] := by
  simp only [putF, if_neg (ne_of_beq nPW), if_neg (ne_of_beq nMW), if_neg (ne_of_beq nMP), if_neg (ne_of_beq nEW), if_neg (ne_of_beq nEP), if_neg (ne_of_beq nEM)]
end
/-- what the walk asks of the class and of the module's constants -/
structure FTxt (K : PySem.W.Frag) (mg : Str → Option Value) (C : Addr) : Prop where
  cl : Cls K C
  nW : NoAttr K C "width"
  nP : NoAttr K C "point"
  nM : NoAttr K C "manner"
  nE : NoAttr K C "ends"
structure FCst (K : PySem.W.Frag) (mg : Str → Option Value) (aE : Addr) : Prop where
  lw : ∃ t, mg "LEAST_WIDTH" = some (.int 2 t)
  gw : ∃ t, mg "GREATEST_WIDTH" = some (.int 64 t)
  gp : ∃ t, mg "GREATEST_POINT" = some (.int 64 t)
  e : mg "ENDS" = some (.ref aE)
  eT : ∀ H, SqT K H aE [.str "wrap", .str "stop"]
def two (n : Int) : Int := 2 ^ n.toNat
def lst (x : Int) : Int := -(two (x - 1))
def grt (x : Int) : Int := two (x - 1) - 1
def lstV : Option Int → V
  | none => .non
  | some x => .int (lst x)
def grtV : Option Int → V
  | none => .non
  | some x => .int (grt x)
def inR : Option Int → Int → Bool
  | none, _ => true
  | some x, n => decide (lst x ≤ n) && decide (n ≤ grt x)
def nearB : Mn → Bool
  | .half => true
  | .even => true
  | .far => true
  | _ => false
/-- the word as which a whole number of steps is kept -/
def wordF (w : Option Int) (st : Bool) (n : Int) : Int := match w with
  | none => n
  | some x => if inR (some x) n = true then n else if st = true then (if n < 0 then lst x else grt x) else (n - lst x) % two x + lst x
def spWidth : Sp := fun vs H Q _ => ∃ w : Option Int, vs = [wV w] ∧ WOk w ∧ Q (.bl true) H
def spPoint : Sp := fun vs H Q _ => ∃ p : Int, vs = [.int p] ∧ -64 ≤ p ∧ p ≤ 64 ∧ Q (.bl true) H
def spEnds : Sp := fun vs H Q _ => ∃ st : Bool, vs = [.str (endS st)] ∧ Q (.bl true) H
def spInit (C : Addr) : Sp := fun vs H Q _ => ∃ (p dx : Addr) (w : Option Int) (pt : Int) (m : Mn) (st : Bool), vs = [.ref p, wV w, .int pt, .str m.str, .str (endS st)] ∧ WOk w ∧ -64 ≤ pt ∧ pt ≤ 64 ∧ H p = some (.ins C dx []) ∧
  ∀ H', FormAt C H' p w pt m st → (∀ b o, b ≠ p → H b = some o → H' b = some o) → (∀ b, b ≠ p → H b = none → H' b = none) → Q .non H'
def spF (C : Addr) (r : Option Int → Int → Mn → Bool → Hp → VK → Prop) : Sp := fun vs H Q _ => ∃ (p : Addr) (w : Option Int) (pt : Int) (m : Mn) (st : Bool), vs = [.ref p] ∧ FormAt C H p w pt m st ∧ r w pt m st H Q
def spLeast (C : Addr) : Sp := spF C fun w _ _ _ H Q => Q (lstV w) H
def spGreatest (C : Addr) : Sp := spF C fun w _ _ _ H Q => Q (grtV w) H
def spStep (C : Addr) : Sp := spF C fun _ pt _ _ H Q => ∀ p, H p = none → Q (.ref p) (upd H p (.tup [.int (twoT (-pt)), .int (twoB (-pt))]))
def spSlack (C : Addr) : Sp := spF C fun _ _ m _ H Q => ∀ p, H p = none → Q (.ref p) (upd H p (.tup [.int 1, .int (if nearB m = true then 2 else 1)]))
def spHas (K : PySem.W.Frag) (C : Addr) : Sp := fun vs H Q _ => ∃ (p : Addr) (w : Option Int) (pt : Int) (m : Mn) (st : Bool) (x : V) (b : Bool), vs = [.ref p, x] ∧ FormAt C H p w pt m st ∧ ((∃ n, x = .int n ∧ b = inR w n) ∨ (WholeIs K H x false ∧ b = false)) ∧ Q (.bl b) H
def spWord (C : Addr) : Sp := fun vs H Q _ => ∃ (p : Addr) (w : Option Int) (pt : Int) (m : Mn) (st : Bool) (n : Int), vs = [.ref p, .int n] ∧ FormAt C H p w pt m st ∧ Q (.int (wordF w st n)) H
/-- how many steps a value is, rounded -/
def steps (pt : Int) (m : Mn) (t b : Int) : Int := m.f (lowT (t * twoB (-pt)) (b * twoT (-pt))) (lowB (t * twoB (-pt)) (b * twoT (-pt)))
def spEnded (C : Addr) : Sp := fun vs H Q _ => ∃ (p : Addr) (w : Option Int) (pt : Int) (m : Mn) (st : Bool) (n : Int), vs = [.ref p, .int n] ∧ FormAt C H p w pt m st ∧ ∀ r, H r = none → Q (.ref r) (upd H r (.tup [.int (wordF w st n), .int (n - wordF w st n)]))
def spKept (K : PySem.W.Frag) (C : Addr) : Sp := fun vs H Q _ => ∃ (p : Addr) (w : Option Int) (pt : Int) (m : Mn) (st : Bool) (a : Addr) (t b : Int), vs = [.ref p, .ref a] ∧ FormAt C H p w pt m st ∧ SqT K H a [.int t, .int b] ∧ 0 < b ∧ t.natAbs < 2 ^ 1500 ∧ b.natAbs < 2 ^ 1500 ∧
  ∀ (r : Addr) (H' : Hp), H r = none → Same H H' → H' r = some (.tup [.int (wordF w st (steps pt m t b)), .int (steps pt m t b - wordF w st (steps pt m t b))]) → Q (.ref r) H'
theorem two_pos (n : Int) : 0 < two n := by
  unfold two
  exact Int.pow_pos (by decide)
theorem twoT_pos (n : Int) : 0 < twoT n := by
  unfold twoT
  split
  · decide
  · exact Int.pow_pos (by decide)
theorem twoB_pos (n : Int) : 0 < twoB n := by
  unfold twoB
  split
  · exact Int.pow_pos (by decide)
  · decide
theorem two_lt {n : Int} {k : Nat} (h : n.toNat < k) : (2 ^ n.toNat : Int).natAbs < 2 ^ k := by
  rw [Int.natAbs_pow]
  exact Nat.pow_lt_pow_right (by decide) h
theorem twoT_lt {n : Int} (h1 : n ≤ 64) : (twoT n).natAbs < 2 ^ 65 := by
  unfold twoT
  split
  · decide
  · exact two_lt (by omega)
theorem twoB_lt {n : Int} (h1 : -64 ≤ n) : (twoB n).natAbs < 2 ^ 65 := by
  unfold twoB
  split
  · exact two_lt (by omega)
  · decide
theorem low_pos' {t b : Int} (hb : b ≠ 0) : 0 < lowB t b := by
  have g0 := gI_pos (t := t) hb
  have g1 := gI_le (t := t) hb
  have : 1 ≤ lowB t b := by
    unfold lowB
    refine (Int.le_ediv_iff_mul_le g0).mpr ?_
    split <;> omega
  omega
theorem lowT_le {t b : Int} : (lowT t b).natAbs ≤ t.natAbs := by
  unfold lowT
  refine Nat.le_trans (Int.natAbs_ediv_le_natAbs _ _) ?_
  split <;> omega
theorem lowB_le {t b : Int} : (lowB t b).natAbs ≤ b.natAbs := by
  unfold lowB
  refine Nat.le_trans (Int.natAbs_ediv_le_natAbs _ _) ?_
  split <;> omega
section
variable {P : Program} {w : World} {K : PySem.W.Frag} {mg : Str → Option Value} {base : Heap}
theorem sc_is_width : FnScope ["thing"] ["thing"] (defScope s_is_width) := ⟨rfl, rfl, rfl, by decide +kernel, rfl, by decide +kernel, by decide +kernel⟩
theorem ok_is_width {f : Addr} {fd : FuncData} {aE : Addr} (Z : FCst K mg aE) (F : Fun K "is_width" "is_width" s_is_width f fd) (c_is_whole : Cal P w K mg base 1 "is_whole" ["thing"] (spWhole K)) : FnOk P w K mg base CX0 2 f fd ["thing"] spWidth := by
  refine F.ok sc_is_width (fun vs H Q E h => ?_) (fun cdv A outer s H vs Q E hr h => ?_)
  · obtain ⟨w, rfl, _⟩ := h
    rfl
  · obtain ⟨w, rfl, hw, q⟩ := h
    obtain ⟨_, gLW⟩ := Z.lw
    obtain ⟨_, gGW⟩ := Z.gw
    refine ⟨_, (pss_one (ps_ret (pe_or (pe_cmpR op_isN (pv 0) pe_non (nomark _)) (pe_one (pe_and (pe_cal c_is_whole hr (pa_cons (pv 0) pa_nil)) (pe_one (pe_chain op_le op_le (pe_glob (v := .int 2) (by rfl) gLW ⟨_, rfl⟩) (pv 0) (pe_glob (v := .int 64) (by rfl) gGW ⟨_, rfl⟩)))))))), ?_⟩
    cases w with
    | none => exact ⟨_, rfl, rfl, _, rfl, iteT q⟩
    | some x =>
      obtain ⟨h1, h2⟩ := hw x rfl
      refine ⟨_, rfl, rfl, _, rfl, iteF ⟨_, rfl, _, _, rfl, .int x, _, rfl, iteT ⟨_, rfl, _, _, rfl, rfl, _, rfl, ?_⟩⟩⟩
      rw [decide_eq_true h1]
      refine iteT ⟨_, _, rfl, rfl, ?_⟩
      show Q (.bl (decide (x ≤ 64))) H
      rw [decide_eq_true h2]
      exact q
theorem sc_is_point : FnScope ["thing"] ["thing"] (defScope s_is_point) := ⟨rfl, rfl, rfl, by decide +kernel, rfl, by decide +kernel, by decide +kernel⟩
theorem ok_is_point {f : Addr} {fd : FuncData} {aE : Addr} (Z : FCst K mg aE) (F : Fun K "is_point" "is_point" s_is_point f fd) (z : Zs mg) (c_is_whole : Cal P w K mg base 1 "is_whole" ["thing"] (spWhole K)) : FnOk P w K mg base CX0 2 f fd ["thing"] spPoint := by
  refine F.ok sc_is_point (fun vs H Q E h => ?_) (fun cdv A outer s H vs Q E hr h => ?_)
  · obtain ⟨x, rfl, _⟩ := h
    rfl
  · obtain ⟨x, rfl, h1, h2, q⟩ := h
    obtain ⟨_, gGP⟩ := Z.gp
    refine ⟨_, (pss_one (ps_ret (pe_and (pe_cal c_is_whole hr (pa_cons (pv 0) pa_nil)) (pe_one (pe_cmpR op_le (pe_callB call_abs (by rfl) z.abs (by decide +kernel) (pa_cons (pv 0) pa_nil)) (pe_glob (v := .int 64) (by rfl) gGP ⟨_, rfl⟩) (nomark _)))))), ?_⟩
    refine ⟨_, rfl, _, _, rfl, .int x, _, rfl, iteT ⟨_, rfl, _, rfl, _, _, rfl, rfl, ?_⟩⟩
    show Q (.bl (decide ((if x < 0 then -x else x) ≤ 64))) H
    rw [decide_eq_true (show (if x < 0 then -x else x) ≤ 64 by split <;> omega)]
    exact q
theorem sc_is_ends : FnScope ["thing"] ["thing"] (defScope s_is_ends) := ⟨rfl, rfl, rfl, by decide +kernel, rfl, by decide +kernel, by decide +kernel⟩
theorem ok_is_ends {f : Addr} {fd : FuncData} {k : Nat} {aE : Addr} (Z : FCst K mg aE) (F : Fun K "is_ends" "is_ends" s_is_ends f fd) (z : Zs mg) : FnOk P w K mg base CX0 (k + 1) f fd ["thing"] spEnds := by
  refine F.ok sc_is_ends (fun vs H Q E h => ?_) (fun cdv A outer s H vs Q E hr h => ?_)
  · obtain ⟨st, rfl, _⟩ := h
    rfl
  · obtain ⟨st, rfl, q⟩ := h
    refine ⟨_, (pss_one (ps_ret (pe_and (pe_callB call_isi (by rfl) z.isinstance (by decide +kernel) (pa_cons (pv 0) (pa_cons (pe_bltn (v := .ty "str") (by rfl) z.str (by decide +kernel) rfl) pa_nil))) (pe_one (pe_cmpR op_in_seq (pv 0) (pe_glob (v := .ref aE) (by rfl) Z.e rfl) (by rfl)))))), ?_⟩
    refine ⟨_, rfl, _, .ty "str", _, _, true, rfl, .ty _, .base (.str _), kit_ty (by decide +kernel), _, rfl, iteT ⟨_, rfl, aE, _, rfl, .inr (Z.eT _), rfl, rfl, ?_⟩⟩
    cases st with
    | true =>
      rw [show inV (V.str (endS true)) [V.str "wrap", V.str "stop"] = true by decide +kernel]
      exact q
    | false =>
      rw [show inV (V.str (endS false)) [V.str "wrap", V.str "stop"] = true by decide +kernel]
      exact q
theorem sc_Form___init__ : FnScope ["self", "width", "point", "manner", "ends"] ["self", "width", "point", "manner", "ends"] (defScope s_Form___init__) := ⟨rfl, rfl, rfl, by decide +kernel, rfl, by decide +kernel, by decide +kernel⟩
theorem ok_Form___init__ {f : Addr} {fd : FuncData} {dM : Addr} {dvs : List V} {C : Addr} (T : FTxt K mg C) (F : FunD K "__init__" "Form.__init__" (defArgs s_Form___init__) (defBody s_Form___init__) (defScope s_Form___init__) dvs [] f fd) (c_is_width : Cal P w K mg base 2 "is_width" ["thing"] spWidth) (c_is_point : Cal P w K mg base 2 "is_point" ["thing"] spPoint) (c_is_manner : Cal P w K mg base 1 "is_manner" ["thing"] (spManner K dM)) (c_is_ends : Cal P w K mg base 1 "is_ends" ["thing"] spEnds) : FnOk P w K mg base CX0 3 f fd ["self", "width", "point", "manner", "ends"] (spInit C) := by
  refine F.ok sc_Form___init__ (fun vs H Q E h => ?_) (fun cdv A outer s H vs Q E hr h => ?_)
  · obtain ⟨p, dx, w, pt, m, st, rfl, _⟩ := h
    rfl
  · obtain ⟨p, dx, w, pt, m, st, rfl, hw, h0, h1, hp, q⟩ := h
    refine ⟨_, PSs.nox (pss_cons (ps_if (pt_not (pt_val (pe_cal c_is_width hr (pa_cons (pv 1) pa_nil)))) (pss_one ps_never) pss_nil)
      (pss_cons (ps_if (pt_not (pt_val (pe_cal c_is_point hr (pa_cons (pv 2) pa_nil)))) (pss_one ps_never) pss_nil)
      (pss_cons (ps_if (pt_not (pt_val (pe_cal c_is_manner hr (pa_cons (pv 3) pa_nil)))) (pss_one ps_never) pss_nil)
      (pss_cons (ps_if (pt_not (pt_val (pe_cal c_is_ends hr (pa_cons (pv 4) pa_nil)))) (pss_one ps_never) pss_nil)
      (pss_cons (ps_fld (pv 0) (pv 1) rfl)
      (pss_cons (ps_fld (pv 0) (pv 2) rfl)
      (pss_cons (ps_fld (pv 0) (pv 3) rfl)
      (pss_one (ps_fld (pv 0) (pv 4) rfl))))))))), ?_⟩
    refine ⟨_, rfl, w, rfl, hw, _, rfl, iteF ?_⟩
    refine ⟨_, rfl, pt, rfl, h0, h1, _, rfl, iteF ?_⟩
    refine ⟨_, rfl, _, true, rfl, .inl ⟨m, rfl, rfl⟩, _, rfl, iteF ?_⟩
    refine ⟨_, rfl, st, rfl, _, rfl, iteF ?_⟩
    refine ⟨_, rfl, _, rfl, p, C, dx, [], rfl, hp, T.cl, T.nW, (by show 0 < 1000; decide), ?_⟩
    refine ⟨_, rfl, _, rfl, p, C, dx, _, rfl, upd_same, T.cl, T.nP, (by show 1 < 1000; decide), ?_⟩
    refine ⟨_, rfl, _, rfl, p, C, dx, _, rfl, upd_same, T.cl, T.nM, ?_, ?_⟩
    · simp only [putF, if_neg (ne_of_beq nPW)]
      show 2 < 1000
      decide
    refine ⟨_, rfl, _, rfl, p, C, dx, _, rfl, upd_same, T.cl, T.nE, ?_, ?_⟩
    · simp only [putF, if_neg (ne_of_beq nPW), if_neg (ne_of_beq nMW), if_neg (ne_of_beq nMP)]
      show 3 < 1000
      decide
    refine q _ ⟨⟨dx, ?_⟩, hw, h0, h1⟩ (fun b o hb e => ?_) (fun b hb e => ?_)
    · rw [upd_same]
      exact congrArg (fun l => some (HO.ins C dx l)) fl_put
    · rw [upd_ne hb, upd_ne hb, upd_ne hb, upd_ne hb]
      exact e
    · rw [upd_ne hb, upd_ne hb, upd_ne hb, upd_ne hb]
      exact e
theorem sc_Form_least : FnScope ["self"] ["self"] (defScope s_Form_least) := ⟨rfl, rfl, rfl, by decide +kernel, rfl, by decide +kernel, by decide +kernel⟩
theorem ok_Form_least {f : Addr} {fd : FuncData} {k : Nat} {C : Addr} (T : FTxt K mg C) (F : Fun K "least" "Form.least" s_Form_least f fd) : FnOk P w K mg base CX0 (k + 1) f fd ["self"] (spLeast C) := by
  refine F.ok sc_Form_least (fun vs H Q E h => ?_) (fun cdv A outer s H vs Q E hr h => ?_)
  · obtain ⟨p, w, pt, m, st, rfl, _⟩ := h
    rfl
  · obtain ⟨p, w, pt, m, st, rfl, ⟨⟨dx, ho⟩, hw, _, _⟩, q⟩ := h
    refine ⟨_, (pss_one (ps_ret (pe_ifExp (pt_cmpR op_isN (pe_fld (pv 0) rfl) pe_non (nomark _)) pe_non (pe_un un_neg (pe_op op_shl pe_int (pe_op op_sub (pe_fld (pv 0) rfl) pe_int)))))), ?_⟩
    refine ⟨_, rfl, p, C, dx, _, _, rfl, ho, T.cl, T.nW, fl_w, rfl, _, rfl, ?_⟩
    cases w with
    | none => exact iteT q
    | some x =>
      obtain ⟨h1, h2⟩ := hw x rfl
      refine iteF ⟨_, rfl, p, C, dx, _, _, rfl, ho, T.cl, T.nW, fl_w, _, _, rfl, rfl, _, _, rfl, rfl, ⟨by omega, by omega, by decide⟩, _, rfl, ?_⟩
      have e : (1 : Int) * 2 ^ (x - 1).toNat = two (x - 1) := Int.one_mul _
      rw [e]
      exact q
theorem sc_Form_greatest : FnScope ["self"] ["self"] (defScope s_Form_greatest) := ⟨rfl, rfl, rfl, by decide +kernel, rfl, by decide +kernel, by decide +kernel⟩
theorem ok_Form_greatest {f : Addr} {fd : FuncData} {k : Nat} {C : Addr} (T : FTxt K mg C) (F : Fun K "greatest" "Form.greatest" s_Form_greatest f fd) : FnOk P w K mg base CX0 (k + 1) f fd ["self"] (spGreatest C) := by
  refine F.ok sc_Form_greatest (fun vs H Q E h => ?_) (fun cdv A outer s H vs Q E hr h => ?_)
  · obtain ⟨p, w, pt, m, st, rfl, _⟩ := h
    rfl
  · obtain ⟨p, w, pt, m, st, rfl, ⟨⟨dx, ho⟩, hw, _, _⟩, q⟩ := h
    refine ⟨_, (pss_one (ps_ret (pe_ifExp (pt_cmpR op_isN (pe_fld (pv 0) rfl) pe_non (nomark _)) pe_non (pe_op op_sub (pe_op op_shl pe_int (pe_op op_sub (pe_fld (pv 0) rfl) pe_int)) pe_int)))), ?_⟩
    refine ⟨_, rfl, p, C, dx, _, _, rfl, ho, T.cl, T.nW, fl_w, rfl, _, rfl, ?_⟩
    cases w with
    | none => exact iteT q
    | some x =>
      obtain ⟨h1, h2⟩ := hw x rfl
      refine iteF ⟨_, rfl, p, C, dx, _, _, rfl, ho, T.cl, T.nW, fl_w, _, _, rfl, rfl, _, _, rfl, rfl, ⟨by omega, by omega, by decide⟩, _, _, rfl, rfl, ?_⟩
      have e : (1 : Int) * 2 ^ (x - 1).toNat = two (x - 1) := Int.one_mul _
      rw [e]
      exact q
theorem sc_Form_has : FnScope ["self", "thing"] ["self", "thing"] (defScope s_Form_has) := ⟨rfl, rfl, rfl, by decide +kernel, rfl, by decide +kernel, by decide +kernel⟩
theorem ok_Form_has {f : Addr} {fd : FuncData} {C : Addr} (T : FTxt K mg C) (F : Fun K "has" "Form.has" s_Form_has f fd) (c_is_whole : Cal P w K mg base 1 "is_whole" ["thing"] (spWhole K)) (m_least : CalM P w K mg base 1 C "least" ["self"] (spLeast C)) (m_greatest : CalM P w K mg base 1 C "greatest" ["self"] (spGreatest C)) : FnOk P w K mg base CX0 2 f fd ["self", "thing"] (spHas K C) := by
  refine F.ok sc_Form_has (fun vs H Q E h => ?_) (fun cdv A outer s H vs Q E hr h => ?_)
  · obtain ⟨p, w, pt, m, st, x, b, rfl, _⟩ := h
    rfl
  · obtain ⟨p, w, pt, m, st, x, b, rfl, hf, hx, q⟩ := h
    obtain ⟨⟨dx, ho⟩, hw, _, _⟩ := id hf
    refine ⟨_, (pss_cons (ps_if (pt_not (pt_val (pe_cal c_is_whole hr (pa_cons (pv 1) pa_nil)))) (pss_one (ps_ret pe_bl)) pss_nil)
      (pss_one (ps_ret (pe_or (pe_cmpR op_isN (pe_fld (pv 0) rfl) pe_non (nomark _)) (pe_one (pe_chain op_le op_le (pe_calm0 (pv 0) T.cl m_least hr) (pv 1) (pe_calm0 (pv 0) T.cl m_greatest hr))))))), ?_⟩
    rcases hx with ⟨n, rfl, rfl⟩ | ⟨hx, rfl⟩
    · refine ⟨_, rfl, _, true, rfl, .int n, _, rfl, iteF ?_⟩
      refine ⟨_, rfl, p, C, dx, _, _, rfl, ho, T.cl, T.nW, fl_w, rfl, _, rfl, ?_⟩
      cases w with
      | none => exact iteT q
      | some y =>
        refine iteF ⟨_, rfl, p, dx, _, rfl, ho, fl_no (by decide +kernel), p, some y, pt, m, st, rfl, hf, _, rfl, _, _, rfl, rfl, _, rfl, ?_⟩
        by_cases c : lst y ≤ n
        · rw [decide_eq_true c]
          refine iteT ⟨_, rfl, p, dx, _, rfl, ho, fl_no (by decide +kernel), p, some y, pt, m, st, rfl, hf, _, _, rfl, rfl, ?_⟩
          have q' : Q (.bl (decide (lst y ≤ n) && decide (n ≤ grt y))) H := q
          rw [decide_eq_true c, Bool.true_and] at q'
          exact q'
        · rw [decide_eq_false c]
          refine iteF ?_
          have q' : Q (.bl (decide (lst y ≤ n) && decide (n ≤ grt y))) H := q
          rw [decide_eq_false c, Bool.false_and] at q'
          exact q'
    · exact ⟨_, rfl, _, false, rfl, hx, _, rfl, iteT q⟩
theorem sc_Form_step : FnScope ["self"] ["self"] (defScope s_Form_step) := ⟨rfl, rfl, rfl, by decide +kernel, rfl, by decide +kernel, by decide +kernel⟩
theorem ok_Form_step {f : Addr} {fd : FuncData} {C : Addr} (T : FTxt K mg C) (F : Fun K "step" "Form.step" s_Form_step f fd) (c_two_to : Cal P w K mg base 2 "two_to" ["many"] spTwoTo) : FnOk P w K mg base CX0 3 f fd ["self"] (spStep C) := by
  refine F.ok sc_Form_step (fun vs H Q E h => ?_) (fun cdv A outer s H vs Q E hr h => ?_)
  · obtain ⟨p, w, pt, m, st, rfl, _⟩ := h
    rfl
  · obtain ⟨p, w, pt, m, st, rfl, ⟨⟨dx, ho⟩, hw, h0, h1⟩, q⟩ := h
    refine ⟨_, (pss_one (ps_ret (pe_cal c_two_to hr (pa_cons (pe_un un_neg (pe_fld (pv 0) rfl)) pa_nil)))), ?_⟩
    exact ⟨_, rfl, p, C, dx, _, _, rfl, ho, T.cl, T.nP, fl_p, _, rfl, -pt, rfl, by omega, by omega, q⟩
theorem sc_Form_word_for : FnScope ["self", "number"] ["self", "number"] (defScope s_Form_word_for) := ⟨rfl, rfl, rfl, by decide +kernel, rfl, by decide +kernel, by decide +kernel⟩
theorem ok_Form_word_for {f : Addr} {fd : FuncData} {C : Addr} (T : FTxt K mg C) (F : Fun K "word_for" "Form.word_for" s_Form_word_for f fd) (m_has : CalM P w K mg base 2 C "has" ["self", "thing"] (spHas K C)) (m_least : CalM P w K mg base 1 C "least" ["self"] (spLeast C)) (m_greatest : CalM P w K mg base 1 C "greatest" ["self"] (spGreatest C)) : FnOk P w K mg base CX0 3 f fd ["self", "number"] (spWord C) := by
  refine F.ok sc_Form_word_for (fun vs H Q E h => ?_) (fun cdv A outer s H vs Q E hr h => ?_)
  · obtain ⟨p, w, pt, m, st, n, rfl, _⟩ := h
    rfl
  · obtain ⟨p, w, pt, m, st, n, rfl, hf, q⟩ := h
    obtain ⟨⟨dx, ho⟩, hw, _, _⟩ := id hf
    refine ⟨_, (pss_cons (ps_if (pt_val (pe_calm (pv 0) T.cl m_has hr (pa_cons (pv 1) pa_nil))) (pss_one (ps_ret (pv 1))) pss_nil)
      (pss_cons (ps_if (pt_cmpR op_eq (pe_fld (pv 0) rfl) pe_str (nomark _)) (pss_one (ps_ret (pe_ifExp (pt_cmpR op_lt (pv 1) pe_int (nomark _)) (pe_calm0 (pv 0) T.cl m_least hr) (pe_calm0 (pv 0) T.cl m_greatest hr)))) pss_nil)
      (pss_one (ps_ret (pe_op op_add (pe_op op_mod (pe_op op_sub (pv 1) (pe_calm0 (pv 0) T.cl m_least hr)) (pe_op op_shl pe_int (pe_fld (pv 0) rfl))) (pe_calm0 (pv 0) T.cl m_least hr)))))), ?_⟩
    refine ⟨_, rfl, p, dx, _, rfl, ho, fl_no (by decide +kernel), _, rfl, p, w, pt, m, st, .int n, _, rfl, hf, .inl ⟨n, rfl, rfl⟩, _, rfl, ?_⟩
    cases w with
    | none => exact iteT ⟨_, rfl, q⟩
    | some y =>
      obtain ⟨y0, y1⟩ := hw y rfl
      replace q : Q (.int (if inR (some y) n = true then n else if st = true then (if n < 0 then lst y else grt y) else (n - lst y) % two y + lst y)) H := q
      cases hi : inR (some y) n with
      | true =>
        rw [hi] at q
        exact iteT ⟨_, rfl, q⟩
      | false =>
        rw [hi] at q
        refine iteF ?_
        cases st with
        | true =>
          refine ⟨_, rfl, p, C, dx, _, _, rfl, ho, T.cl, T.nE, fl_e, rfl, _, rfl, ?_⟩
          rw [decide_eq_true (show V.str (endS true) = V.str "stop" from rfl)]
          refine iteT ⟨_, rfl, _, _, rfl, rfl, _, rfl, ite2 (fun c => ?_) (fun c => ?_)⟩
          · have hc : n < 0 := toB c
            refine ⟨_, rfl, p, dx, _, rfl, ho, fl_no (by decide +kernel), p, some y, pt, m, true, rfl, hf, ?_⟩
            simp only [if_pos hc, if_neg Bool.false_ne_true, if_pos] at q
            exact q
          · have hc : ¬ n < 0 := toNB c
            refine ⟨_, rfl, p, dx, _, rfl, ho, fl_no (by decide +kernel), p, some y, pt, m, true, rfl, hf, ?_⟩
            simp only [if_neg hc, if_neg Bool.false_ne_true, if_pos] at q
            exact q
        | false =>
          refine ⟨_, rfl, p, C, dx, _, _, rfl, ho, T.cl, T.nE, fl_e, rfl, _, rfl, ?_⟩
          rw [decide_eq_false (show ¬ V.str (endS false) = V.str "stop" by intro z; exact absurd (V.str.inj z) (by decide +kernel))]
          have e2 : (1 : Int) * 2 ^ y.toNat = two y := Int.one_mul _
          refine iteF ⟨_, rfl, _, rfl, p, dx, _, rfl, ho, fl_no (by decide +kernel), p, some y, pt, m, false, rfl, hf, _, _, rfl, rfl, _, rfl, p, C, dx, _, _, rfl, ho, T.cl, T.nW, fl_w, _, _, rfl, rfl, ⟨by omega, by omega, by decide⟩, _, _, rfl, rfl, ?_, _, rfl, p, dx, _, rfl, ho, fl_no (by decide +kernel), p, some y, pt, m, false, rfl, hf, _, _, rfl, rfl, ?_⟩
          · show 0 < (1 : Int) * 2 ^ y.toNat
            rw [e2]
            exact two_pos y
          · rw [e2]
            simp only [if_neg Bool.false_ne_true] at q
            exact q
theorem sc_Form_ended : FnScope ["self", "number", "word"] ["self", "number"] (defScope s_Form_ended) := ⟨rfl, rfl, rfl, by decide +kernel, rfl, by decide +kernel, by decide +kernel⟩
theorem ok_Form_ended {f : Addr} {fd : FuncData} {C : Addr} (T : FTxt K mg C) (F : Fun K "ended" "Form.ended" s_Form_ended f fd) (m_word_for : CalM P w K mg base 3 C "word_for" ["self", "number"] (spWord C)) : FnOk P w K mg base CX0 4 f fd ["self", "number"] (spEnded C) := by
  refine F.ok sc_Form_ended (fun vs H Q E h => ?_) (fun cdv A outer s H vs Q E hr h => ?_)
  · obtain ⟨p, w, pt, m, st, n, rfl, _⟩ := h
    rfl
  · obtain ⟨p, w, pt, m, st, n, rfl, hf, q⟩ := h
    obtain ⟨⟨dx, ho⟩, hw, h0, h1⟩ := id hf
    refine ⟨_, (pss_cons (ps_set (i := 2) sc_Form_ended.nd rfl (.inl rfl) (pe_calm (pv 0) T.cl m_word_for hr (pa_cons (pv 1) pa_nil)))
      (pss_one (ps_ret (pe_tup (pa_cons (pv 2) (pa_cons (pe_op op_sub (pv 1) (pv 2)) pa_nil)))))), ?_⟩
    refine ⟨_, rfl, p, dx, _, rfl, ho, fl_no (by decide +kernel), _, rfl, p, w, pt, m, st, n, rfl, hf, ?_⟩
    exact ⟨_, rfl, _, rfl, _, rfl, _, _, rfl, rfl, (by show 2 ≤ sizeLine; decide), q⟩
theorem sc_Form_kept : FnScope ["self", "value"] ["self", "value"] (defScope s_Form_kept) := ⟨rfl, rfl, rfl, by decide +kernel, rfl, by decide +kernel, by decide +kernel⟩
theorem ok_Form_kept {f : Addr} {fd : FuncData} {C : Addr} (T : FTxt K mg C) (F : Fun K "kept" "Form.kept" s_Form_kept f fd) (c_rounded : Cal P w K mg base 3 "rounded" ["value", "manner"] (spRounded K)) (c_divided : Cal P w K mg base 3 "divided" ["one", "other"] (spTwo K (fun t u v x => v ≠ 0) (fun t u v x => t * x) (fun t u v x => u * v))) (m_step : CalM P w K mg base 3 C "step" ["self"] (spStep C)) (m_ended : CalM P w K mg base 4 C "ended" ["self", "number"] (spEnded C)) : FnOk P w K mg base CX0 5 f fd ["self", "value"] (spKept K C) := by
  refine F.ok sc_Form_kept (fun vs H Q E h => ?_) (fun cdv A outer s H vs Q E hr h => ?_)
  · obtain ⟨p, w, pt, m, st, a, t, b, rfl, _⟩ := h
    rfl
  · obtain ⟨p, w, pt, m, st, a, t, b, rfl, hf, ha, hb, ht, hl, q⟩ := h
    obtain ⟨⟨dx, ho⟩, hw, h0, h1⟩ := id hf
    refine ⟨_, (pss_one (ps_ret (pe_calm (pv 0) T.cl m_ended hr (pa_cons (pe_cal c_rounded hr (pa_cons (pe_cal c_divided hr (pa_cons (pv 1) (pa_cons (pe_calm0 (pv 0) T.cl m_step hr) pa_nil))) (pa_cons (pe_fld (pv 0) rfl) pa_nil))) pa_nil)))), ?_⟩
    have T0 := twoT_pos (-pt)
    have B0 := twoB_pos (-pt)
    have T1 : (twoT (-pt)).natAbs < 2 ^ 65 := twoT_lt (by omega)
    have B1 : (twoB (-pt)).natAbs < 2 ^ 65 := twoB_lt (by omega)
    refine ⟨_, rfl, p, dx, _, rfl, ho, fl_no (by decide +kernel), _, rfl, _, rfl, p, dx, _, rfl, ho, fl_no (by decide +kernel), p, w, pt, m, st, rfl, hf, fun s1 hs1 => ?_⟩
    have e1 := same_new (o := .tup [.int (twoT (-pt)), .int (twoB (-pt))]) hs1
    refine ⟨a, s1, t, b, twoT (-pt), twoB (-pt), rfl, Same.tup e1 ha, SqT.of upd_same, (by omega), hb, B0, up ht (by decide), up hl (by decide), up T1 (by decide), up B1 (by decide), fun d hd => ?_⟩
    have e2 := same_new (o := .tup [.int (lowT (t * twoB (-pt)) (b * twoT (-pt))), .int (lowB (t * twoB (-pt)) (b * twoT (-pt)))]) hd
    have nz : b * twoT (-pt) ≠ 0 := Int.mul_ne_zero (by omega) (by omega)
    have bT : (lowT (t * twoB (-pt)) (b * twoT (-pt))).natAbs < 2 ^ 4000 := up2 lowT_le (wide_lt ht B1) (by decide)
    have bB : (lowB (t * twoB (-pt)) (b * twoT (-pt))).natAbs < 2 ^ 4000 := up2 lowB_le (wide_lt hl T1) (by decide)
    have ho2 := e2 _ _ (e1 _ _ ho)
    refine ⟨_, rfl, p, C, dx, _, _, rfl, ho2, T.cl, T.nM, fl_m, d, m, _, _, rfl, SqT.of upd_same, low_pos' nz, bT, bB, ?_⟩
    refine ⟨p, w, pt, m, st, _, rfl, hf.same (e1.trans e2), fun r hr' => ?_⟩
    exact q r _ ((e1.trans e2).free hr') ((e1.trans e2).trans (same_new hr')) upd_same
end
end E1

namespace E1
open PySem PySem.Spec PyProof.Rows L2

/-! ### methods that may raise -/
def CalMX (P : Program) (w : World) (K : PySem.W.Frag) (mg : Str → Option Value) (base : Heap) (k : Nat) (C : Addr) (m : Str) (ps : List Str) (sp : Sp) : Prop :=
  ∃ (f : Addr) (fd : FuncData), Meth K C m f ∧ Binds K fd ps [] ∧ FnOk P w K mg base (L2.CX P w) k f fd ps sp
def CalMXK (P : Program) (w : World) (K : PySem.W.Frag) (mg : Str → Option Value) (base : Heap) (k : Nat) (C : Addr) (m : Str) (ps ks : List Str) (gV : List V → List V → List V) (sp : Sp) : Prop :=
  ∃ (f : Addr) (fd : FuncData) (g : List Value → List Value → List Value), Meth K C m f ∧ KBn K fd ps 1 ks g gV ∧ FnOk P w K mg base (L2.CX P w) k f fd ps sp
def tMethX (C : Addr) (m : Str) (sp : Sp) (E : L2.St → XK) (ta : TE) (t : TA) : TE := fun σ H Q => ta σ H fun x H1 => ∃ a dx fs, x = .ref a ∧ H1 a = some (.ins C dx fs) ∧ fs.lookup m = none ∧ t σ H1 fun vs H2 => sp (x :: vs) H2 Q (E σ)
section
variable {X : Cx} {k j : Nat} {C : Addr} {m x : Str} {ps ks : List Str} {dvs : List V} {sp : Sp} {o e : Expr} {es : List Expr} {ta : TE} {t tk : TA} {apos p pos : Pos} {gV : List V → List V → List V} {kws : List Keyword}
theorem pe_calmx {pl : Sem Bool} (he : PE X o ta) (c : Cls X.K C) (h : CalMX X.prog X.w X.K X.mg X.base k C m ps sp) (hr : Room j X.A) (ha : PA X (e :: es) t) (hle : k ≤ j := by decide)
    (hst : starEach (e :: es) X.env = (false, eval e X.env) :: starEach es X.env := by rfl) (hpl : (backTo pos (starEach es X.env)).any (·.1) = false := by rfl)
    (ht : eval (.Call (.Attribute o m apos) (e :: es) [] pos) X.env = (do
      let ov ← eval o X.env
      standAt apos.atName
      let (f, first) ← holding [ov] (getMethod ov m pl)
      callWith pos f first (backTo pos (starEach (e :: es) X.env)) (backToKw pos (keywordEach [] X.env))) := by rfl) :
    PE X (.Call (.Attribute o m apos) (e :: es) [] pos) (tMeth C m sp [] E0 ta t) := by
  obtain ⟨f, fd, h1, h2, h3⟩ := h
  exact pe_meth he c h1 h3 (hr.mono hle) h2 .nil passL ha hst hpl ht
theorem pe_calmkx0 {pl : Sem Bool} (he : PE X o ta) (c : Cls X.K C) (h : CalMXK X.prog X.w X.K X.mg X.base k C m ps ks gV sp) (hr : Room j X.A) (hkw : PK X kws tk) (hle : k ≤ j := by decide)
    (hall : (backToKw pos (keywordEach kws X.env)).all (·.1.isSome) = true := by rfl) (hks : (backToKw pos (keywordEach kws X.env)).filterMap (·.1) = ks := by rfl)
    (hpl : ((backTo pos (starEach [] X.env)).any (·.1) || (backToKw pos (keywordEach kws X.env)).any (·.1.isNone)) = false := by rfl)
    (ht : eval (.Call (.Attribute o m apos) [] kws pos) X.env = (do
      let ov ← eval o X.env
      standAt apos.atName
      let (f, first) ← holding [ov] (getMethod ov m pl)
      callWith pos f first (backTo pos (starEach [] X.env)) (backToKw pos (keywordEach kws X.env))) := by rfl) :
    PE X (.Call (.Attribute o m apos) [] kws pos) (tMethK C m ks.length sp gV ta tk) := by
  obtain ⟨f, fd, g, hm, hb, F⟩ := h
  refine ⟨fun pins s σ H Q I h => ?_⟩
  refine PySem.W.methodCall_KW (pl := pl) (thn (he.run pins s σ H _ I h) fun u s1 ⟨x, H1, I1, rx, a, dx, fs, ex, ea, l, q⟩ => ?_) ht
  subst ex
  obtain rfl : u = Value.ref a := rx
  refine getmeth_ok I1 ea c hm l ?_
  refine PySem.W.callWith_KW0 (first := [.ref a]) (h₀ := X.base) I.ok.mod.kin hm.kp hall (thn (hkw.run pos pins s1 σ H1 _ I1 q) fun ws s2 ⟨zs, H2, I2, rz, l2, q2⟩ => ⟨I2.kIn, ?_⟩) hpl
  rw [hks]
  exact run_fnN (vs := [.ref a]) (us := [.ref a]) F (hr.mono hle) hb passL I2 (.cons rfl .nil) rz rfl l2 q2
/-- a method's call whose error a try around it waits for -/
theorem pe_calmxS {W : WX} {pl : Sem Bool} (he : PE X o ta) (c : Cls X.K C) (h : CalMX X.prog X.w X.K X.mg X.base k C m ps sp) (hr : Room j X.A) (tk : Takes X W) (ha : PA X (e :: es) t) (hle : k ≤ j := by decide)
    (hst : starEach (e :: es) X.env = (false, eval e X.env) :: starEach es X.env := by rfl) (hpl : (backTo pos (starEach es X.env)).any (·.1) = false := by rfl)
    (ht : eval (.Call (.Attribute o m apos) (e :: es) [] pos) X.env = (do
      let ov ← eval o X.env
      standAt apos.atName
      let (f, first) ← holding [ov] (getMethod ov m pl)
      callWith pos f first (backTo pos (starEach (e :: es) X.env)) (backToKw pos (keywordEach [] X.env))) := by rfl) :
    PE X (.Call (.Attribute o m apos) (e :: es) [] pos) (tMethX C m sp (WE W) ta t) := by
  obtain ⟨f, fd, hm, hb, F⟩ := h
  refine ⟨fun pins s σ H Q I h => ?_⟩
  refine PySem.W.methodCall_KW (pl := pl) (thn (he.run pins s σ H _ I h) fun u s1 ⟨x, H1, I1, rx, a, dx, fs, ex, ea, l, q⟩ => ?_) ht
  subst ex
  obtain rfl : u = Value.ref a := rx
  refine getmeth_ok I1 ea c hm l ?_
  refine PySem.W.callWith_K (first := [.ref a]) (h₀ := X.base) I.ok.mod.kin hm.kp (thn (ha.run pos pins s1 σ H1 _ I1 q) fun us s2 ⟨vs, H2, I2, r, q2⟩ => ⟨I2.kIn, ?_⟩) hst hpl
  exact run_fnS (us := .ref a :: us) (vs := .ref a :: vs) F (hr.mono hle) hb (passAt tk σ) I2 (.cons rfl r) q2
end
theorem qt {p : Prop} [Decidable p] {Q : VK} {H : Hp} (h : p) (q : Q (.bl true) H) : Q (.bl (decide p)) H := (congrArg (fun c => Q (.bl c) H) (decide_eq_true h)).mpr q
theorem iteC {c d : Bool} {A B : Prop} (e : c = d) (h : if d = true then A else B) : if c = true then A else B := e ▸ h
theorem small1000' {n : Nat} (h : n ≤ 1000) : n < sizeLine := Nat.lt_of_le_of_lt h (by decide)
structure Drw (a : Addr) (H H' : Hp) : Prop where
  but : SameBut a H H'
  new : ∀ b, H b = none → H' b = none
theorem Drw.refl (a : Addr) (H : Hp) : Drw a H H := ⟨SameBut.refl a H, fun _ h => h⟩
theorem Drw.trans {a : Addr} {H H1 H2 : Hp} (x : Drw a H H1) (y : Drw a H1 H2) : Drw a H H2 := ⟨x.but.trans y.but, fun b h => y.new b (x.new b h)⟩
/-- what lies at a well's place is no new thing -/
theorem WellAt.ne {H : Hp} {a p : Addr} {c : Int} (h : WellAt H a c) (hp : H p = none) : p ≠ a := fun e => by
  obtain ⟨_, _, _, z, _⟩ := h
  rw [e, z] at hp
  cases hp
/-- new things alone, beside the well -/
theorem SameBut.free {a : Addr} {H H' : Hp} {p : Addr} {c : Int} (s : SameBut a H H') (w : WellAt H' a c) (hp : H' p = none) : H p = none := by
  cases e : H p with
  | none => rfl
  | some o =>
    rw [s _ _ (w.ne hp) e] at hp
    cases hp
theorem tw_nonneg {pt : Int} (h : 0 ≤ pt) : twoB (-pt) = 2 ^ pt.toNat ∧ twoT (-pt) = 1 := by
  unfold twoB twoT
  by_cases h0 : pt = 0
  · subst h0
    decide
  · rw [if_pos (by omega), if_pos (by omega), Int.neg_neg]
    exact ⟨rfl, rfl⟩
theorem tw_neg {pt : Int} (h : pt < 0) : twoB (-pt) = 1 ∧ twoT (-pt) = 2 ^ (0 - pt).toNat := by
  unfold twoB twoT
  rw [if_neg (by omega), if_neg (by omega), Int.zero_sub]
  exact ⟨rfl, rfl⟩

def valT (n pt : Int) : Int := lowT (n * twoT (-pt)) (1 * twoB (-pt))
def valB (n pt : Int) : Int := lowB (n * twoT (-pt)) (1 * twoB (-pt))
/-- no word, whatever else is laid -/
def NoWord (K : PySem.W.Frag) (H : Hp) (w : Option Int) (x : V) : Prop := (∃ n, x = .int n ∧ inR w n = false) ∨ ∀ H', Same H H' → WholeIs K H' x false
def spVal (K : PySem.W.Frag) (C CU : Addr) : Sp := fun vs H Q E => ∃ (p : Addr) (w : Option Int) (pt : Int) (m : Mn) (st : Bool) (x : V), vs = [.ref p, x] ∧ FormAt C H p w pt m st ∧
  ((∃ n : Int, x = .int n ∧ inR w n = true ∧ n.natAbs < 2 ^ 1400 ∧ ∀ (r : Addr) (H' : Hp), H r = none → Same H H' → H' r = some (.tup [.int (valT n pt), .int (valB n pt)]) → Q (.ref r) H') ∨
   (NoWord K H w x ∧ ∀ d, H d = none → E (.ref CU) (some d) (upd H d (.xd [("at", .int 0)]))))
theorem cop_two {top : Int} {j : Nat} (h : j = 0 ∨ top % 2 ≠ 0) : Int.gcd top (2 ^ j) = 1 := by
  rcases h with rfl | h
  · simp
  · have o1 : Nat.Coprime top.natAbs 2 := by
      show Nat.gcd top.natAbs 2 = 1
      rw [Nat.gcd_comm, Nat.gcd_rec]
      have e : top.natAbs % 2 = 1 := by omega
      rw [e]
      exact Nat.gcd_one_left 2
    have o2 : Nat.Coprime top.natAbs (2 ^ j) := Nat.Coprime.pow_right j o1
    show Nat.gcd top.natAbs ((2 : Int) ^ j).natAbs = 1
    rw [Int.natAbs_pow]
    exact o2
theorem low_two {top : Int} {j e : Nat} (h : j = 0 ∨ top % 2 ≠ 0) : lowT (top * 2 ^ e) (2 ^ j * 2 ^ e) = top ∧ lowB (top * 2 ^ e) (2 ^ j * 2 ^ e) = 2 ^ j := by
  have pe : (0 : Int) < 2 ^ e := Int.pow_pos (by decide)
  have pj : (0 : Int) < 2 ^ j := Int.pow_pos (by decide)
  have pp := Int.mul_pos pj pe
  have g : gI (top * 2 ^ e) (2 ^ j * 2 ^ e) = 2 ^ e := by
    unfold gI
    rw [Int.gcd_mul_right, cop_two h, Nat.one_mul]
    omega
  unfold lowT lowB
  rw [g, if_neg (by omega), if_neg (by omega)]
  exact ⟨Int.mul_ediv_cancel _ (by omega), Int.mul_ediv_cancel _ (by omega)⟩
/-- the law's own value, behind i turns -/
def LV (n pt : Int) (i : Nat) (tp bo : Int) : Prop := (pt < 0 ∧ tp = n * 2 ^ i ∧ bo = 1) ∨ (0 ≤ pt ∧ ∃ j e : Nat, i = j + e ∧ n = tp * 2 ^ e ∧ bo = 2 ^ j ∧ (j = 0 ∨ tp % 2 ≠ 0))
theorem LV.fin {n pt tp bo : Int} {i : Nat} (h : LV n pt i tp bo) (hi : i = pt.natAbs) : tp = valT n pt ∧ bo = valB n pt := by
  unfold valT valB
  rcases h with ⟨h0, rfl, rfl⟩ | ⟨h0, j, e, hj, rfl, rfl, ho⟩
  · obtain ⟨k1, k2⟩ := tw_neg h0
    have h2 := low_two (top := n * 2 ^ i) (j := 0) (e := 0) (.inl rfl)
    rw [k1, k2, show (0 - pt).toNat = i by omega]
    simp only [Int.pow_zero, Int.mul_one] at h2 ⊢
    exact ⟨h2.1.symm, h2.2.symm⟩
  · obtain ⟨k1, k2⟩ := tw_nonneg h0
    have h2 := low_two (top := tp) (j := j) (e := e) ho
    rw [k1, k2, show pt.toNat = j + e by omega, Int.pow_add, Int.mul_one, Int.one_mul]
    exact ⟨h2.1.symm, h2.2.symm⟩
def spLVal : Sp := fun vs H Q _ => ∃ n pt : Int, vs = [.int n, .int pt] ∧ -64 ≤ pt ∧ pt ≤ 64 ∧ ∀ p, H p = none → Q (.ref p) (upd H p (.tup [.int (valT n pt), .int (valB n pt)]))
def spLFrac : Sp := fun vs H Q _ => ∃ (a c : Addr) (x y : Int), vs = [.ref a, .ref c] ∧ H a = some (.tup [.int x, .int y]) ∧ H c = some (.tup [.int x, .int y]) ∧ ∀ H', Same H H' → Q (.bl true) H'
def spRefused (K : PySem.W.Frag) (C : Addr) : Sp := fun vs H Q _ => ∃ (p : Addr) (w : Option Int) (pt : Int) (m : Mn) (st : Bool) (x : V), vs = [.ref p, x] ∧ FormAt C H p w pt m st ∧ NoWord K H w x ∧ ∀ H', Same H H' → Q (.bl true) H'
theorem NoWord.mono {K : PySem.W.Frag} {H H1 : Hp} {w : Option Int} {x : V} (h : NoWord K H w x) (s : Same H H1) : NoWord K H1 w x := by
  rcases h with h | h
  · exact .inl h
  · exact .inr fun H' s' => h H' (s.trans s')
theorem eqv2 (a b : Int) : PyData.eqv (.tuple [.int a, .int b]) (.tuple [.int a, .int b]) = true := SeqAt.eqv_refl _ (by rfl)
/-- the classes of refusals here -/
structure Errs (K : PySem.W.Frag) (mg : Str → Option Value) (CE CU CN CT : Addr) : Prop where
  gE : mg "EchoError" = some (.ref CE)
  gU : mg "Unfit" = some (.ref CU)
  gN : mg "NoFraction" = some (.ref CN)
  gT : mg "NoText" = some (.ref CT)
  XU : ExcC K CU
  noA : PySem.W.findIn K (.ref CU) "at" = some none
  ex : PySem.W.exmOne K (.ref CU) (.ref CE) = some true
  kU : PySem.W.kitOne K (.ref CU) (.ref CU) = some true
  kN : PySem.W.kitOne K (.ref CU) (.ref CN) = some false
  kT : PySem.W.kitOne K (.ref CU) (.ref CT) = some false
section
variable {P : Program} {w : World} {K : PySem.W.Frag} {mg : Str → Option Value} {base : Heap}
theorem sc_Form_value : FnScope ["self", "word"] ["self", "word"] (defScope s_Form_value) := ⟨rfl, rfl, rfl, by decide +kernel, rfl, by decide +kernel, by decide +kernel⟩
theorem ok_Form_value {f : Addr} {fd : FuncData} {C : Addr} (T : FTxt K mg C) {CE CU CN CT fI : Addr} (XX : Errs K mg CE CU CN CT) (EC : PySem.ErrX.ErrC K mg "Unfit" CU) (IO : PySem.ErrX.IniOk P w K mg CU fI "at") (F : Fun K "value" "Form.value" s_Form_value f fd) (m_has : CalM P w K mg base 2 C "has" ["self", "thing"] (spHas K C)) (c_times : Cal P w K mg base 3 "times" ["one", "other"] (spTwo K (fun t u v x => True) (fun t u v x => t * v) (fun t u v x => u * x))) (m_step : CalM P w K mg base 3 C "step" ["self"] (spStep C)) : FnOk P w K mg base (L2.CX P w) 4 f fd ["self", "word"] (spVal K C CU) := by
  refine F.okX sc_Form_value (fun vs H Q E h => ?_) (fun cdv A outer s H vs Q E hr h => ?_)
  · obtain ⟨p, w, pt, m, st, x, rfl, _⟩ := h
    rfl
  · obtain ⟨p, w, pt, m, st, x, rfl, hf, h⟩ := h
    obtain ⟨⟨dx, ho⟩, hw, h0, h1⟩ := id hf
    refine ⟨_, (pss_cons (ps_if (pt_not (pt_val (pe_calm (pv 0) T.cl m_has hr (pa_cons (pv 1) pa_nil)))) (pss_one (ps_raiseErr rfl EC IO hr (takes_of rfl rfl rfl rfl) (by exact (pa_cons pe_int pa_nil)))) pss_nil)
      (pss_one (ps_ret (pe_cal c_times hr (pa_cons (pe_tup (pa_cons (pv 1) (pa_cons pe_int pa_nil))) (pa_cons (pe_calm0 (pv 0) T.cl m_step hr) pa_nil)))))), ?_⟩
    rcases h with ⟨n, rfl, hi, hn, q⟩ | ⟨hx, q⟩
    · refine ⟨_, rfl, p, dx, _, rfl, ho, fl_no (by decide +kernel), _, rfl, p, w, pt, m, st, .int n, _, rfl, hf, .inl ⟨n, rfl, hi.symm⟩, _, rfl, iteF ?_⟩
      refine ⟨_, rfl, (by show 2 ≤ sizeLine; decide), fun p1 hp1 => ?_⟩
      have s1 := same_new (o := .tup [.int n, .int 1]) hp1
      refine ⟨_, rfl, p, dx, _, rfl, s1 _ _ ho, fl_no (by decide +kernel), p, w, pt, m, st, rfl, hf.same s1, fun p2 hp2 => ?_⟩
      have s2 := same_new (o := .tup [.int (twoT (-pt)), .int (twoB (-pt))]) hp2
      refine ⟨p1, p2, n, 1, twoT (-pt), twoB (-pt), rfl, SqT.of (s2 _ _ upd_same), SqT.of upd_same, trivial, by decide, twoB_pos _, up hn (by decide), by decide, up (twoT_lt (by omega)) (by decide), up (twoB_lt (by omega)) (by decide), fun r hr' => ?_⟩
      exact q r _ ((s1.trans s2).free hr') ((s1.trans s2).trans (same_new hr')) upd_same
    · refine ⟨_, rfl, p, dx, _, rfl, ho, fl_no (by decide +kernel), _, rfl, p, w, pt, m, st, x, false, rfl, hf, ?_, _, rfl, iteT ?_⟩
      · rcases hx with ⟨n, rfl, hn⟩ | hx
        · exact .inl ⟨n, rfl, hn.symm⟩
        · exact .inr ⟨hx H (Same.refl _), rfl⟩
      · exact ⟨_, rfl, .inr ⟨0, rfl, by decide, by decide⟩, q⟩
theorem sc__law_value : FnScope ["_law_entry", "_law_point", "_law_top", "_law_bottom", "_law_k"] ["_law_entry", "_law_point"] (defScope s__law_value) := ⟨rfl, rfl, rfl, by decide +kernel, rfl, by decide +kernel, by decide +kernel⟩
theorem ok__law_value {f : Addr} {fd : FuncData} {k : Nat} (F : Fun K "_law_value" "_law_value" s__law_value f fd) (z : Zs mg) : FnOk P w K mg base CX0 (k + 1) f fd ["_law_entry", "_law_point"] spLVal := by
  refine F.ok sc__law_value (fun vs H Q E h => ?_) (fun cdv A outer s H vs Q E hr h => ?_)
  · obtain ⟨n, pt, rfl, _⟩ := h
    rfl
  · obtain ⟨n, pt, rfl, p0, p1, q⟩ := h
    refine ⟨_, (pss_cons (ps_set (i := 2) sc__law_value.nd rfl (.inl rfl) (pv 0))
      (pss_cons (ps_set (i := 3) sc__law_value.nd rfl (.inl rfl) pe_int)
      (pss_cons (ps_for PassesOwn.never rfl (pi_range1 (by rfl) z.range (pa_cons (pe_callB call_abs (by rfl) z.abs (by decide +kernel) (pa_cons (pv 1) pa_nil)) pa_nil)) (pg_name (i := 4) sc__law_value.nd rfl (.inl rfl)) (pss_one (ps_if (pt_cmpR op_lt (pv 1) pe_int (nomark _)) (pss_one (ps_set (i := 2) sc__law_value.nd rfl (.inl rfl) (pe_op op_mul (pv 2) pe_int))) (pss_one (ps_if (pt_cmpR op_eq (pe_op op_mod (pv 2) pe_int) pe_int (nomark _)) (pss_one (ps_set (i := 2) sc__law_value.nd rfl (.inl rfl) (pe_op op_fdiv (pv 2) pe_int))) (pss_one (ps_set (i := 3) sc__law_value.nd rfl (.inl rfl) (pe_op op_mul (pv 3) pe_int))))))))
      (pss_one (ps_ret (pe_tup (pa_cons (pv 2) (pa_cons (pv 3) pa_nil)))))))), ?_⟩
    refine ⟨_, rfl, ?_⟩
    have hab : (if pt < 0 then -pt else pt).toNat = pt.natAbs := by split <;> omega
    refine ⟨_, rfl, _, rfl, _, rfl, by split <;> omega, by split <;> omega, for_range (n := (if pt < 0 then -pt else pt).toNat) (fun i σ H' => ∃ (tp bo : Int) (y : Option V), σ = [some (.int n), some (.int pt), some (.int tp), some (.int bo), y] ∧ H' = H ∧ LV n pt i tp bo) ⟨n, 1, none, rfl, rfl, ?_⟩ (fun i σ H2 hi hP => ?_) (fun σ H2 hP => ?_)⟩
    · by_cases c : pt < 0
      · exact .inl ⟨c, by rw [Int.pow_zero, Int.mul_one], rfl⟩
      · exact .inr ⟨by omega, 0, 0, rfl, by rw [Int.pow_zero, Int.mul_one], rfl, .inl rfl⟩
    · obtain ⟨tp, bo, y, rfl, rfl, hv⟩ := hP
      refine ⟨_, rfl, _, _, rfl, rfl, _, rfl, ite2 (fun c => ?_) (fun c => ?_)⟩
      · have hc : pt < 0 := toB c
        refine ⟨_, rfl, _, _, rfl, rfl, .inr ⟨by decide, by decide⟩, ⟨_, _, _, rfl, rfl, ?_⟩⟩
        rcases hv with ⟨_, rfl, rfl⟩ | ⟨h0, _⟩
        · exact .inl ⟨hc, by rw [Int.pow_succ, Int.mul_assoc], rfl⟩
        · omega
      · have hc : ¬ pt < 0 := toNB c
        rcases hv with ⟨h0, _⟩ | ⟨h0, j, e, hj, hn, rfl, ho⟩
        · omega
        refine ⟨_, rfl, _, _, rfl, rfl, (by show (0 : Int) < 2; decide), rfl, _, rfl, ite2 (fun c => ?_) (fun c => ?_)⟩
        · have h2 : tp % 2 = 0 := V.int.inj (toB c)
          refine ⟨_, rfl, _, _, rfl, rfl, ⟨by decide, by decide⟩, ⟨_, _, _, rfl, rfl, .inr ⟨h0, 0, e + 1, ?_, ?_, ?_, .inl rfl⟩⟩⟩
          · rcases ho with rfl | ho
            · omega
            · exact absurd h2 ho
          · rw [hn, Int.pow_succ, Int.mul_comm (2 ^ e) 2, ← Int.mul_assoc, show tp / 2 * 2 = tp by omega]
          · rcases ho with rfl | ho
            · rfl
            · exact absurd h2 ho
        · have h2 : tp % 2 ≠ 0 := fun z => toNB c (congrArg V.int z)
          refine ⟨_, rfl, _, _, rfl, rfl, .inr ⟨by decide, by decide⟩, ⟨_, _, _, rfl, rfl, .inr ⟨h0, j + 1, e, by omega, hn, (Int.pow_succ 2 j).symm, .inr h2⟩⟩⟩
    · obtain ⟨tp, bo, y, rfl, rfl, hv⟩ := hP
      obtain ⟨e1, e2⟩ := hv.fin hab
      refine ⟨_, rfl, _, rfl, (by show 2 ≤ sizeLine; decide), fun p hp => ?_⟩
      rw [e1, e2]
      exact q p hp
theorem sc__law_fraction : FnScope ["_law_found", "_law_due", "_law_one"] ["_law_found", "_law_due"] (defScope s__law_fraction) := ⟨rfl, rfl, rfl, by decide +kernel, rfl, by decide +kernel, by decide +kernel⟩
theorem ok__law_fraction {f : Addr} {fd : FuncData} {k : Nat} (F : Fun K "_law_fraction" "_law_fraction" s__law_fraction f fd) (z : Zs mg) : FnOk P w K mg base CX0 (k + 1) f fd ["_law_found", "_law_due"] spLFrac := by
  refine F.ok sc__law_fraction (fun vs H Q E h => ?_) (fun cdv A outer s H vs Q E hr h => ?_)
  · obtain ⟨a, c, x, y, rfl, _⟩ := h
    rfl
  · obtain ⟨a, c, x, y, rfl, ha, hc, q⟩ := h
    refine ⟨_, (pss_cons (ps_if (PW.pt (pw_or (pt_not (pt_val (pe_callB call_isi (by rfl) z.isinstance (by decide +kernel) (pa_cons (pv 0) (pa_cons (pe_bltn (v := .ty "tuple") (by rfl) z.tuple (by decide +kernel) rfl) pa_nil))))) (pw_or (pt_cmpR op_ne (pe_callB call_len_seq (by rfl) z.len PySem.boot_len (pa_cons (pv 0) pa_nil)) pe_int (nomark _)) (pw_or1 (pt_cmpR (op_neD hr.units) (pv 0) (pv 1) (nomark _)))))) (pss_one (ps_ret pe_bl)) pss_nil)
      (pss_one (ps_ret (pe_not (pe_cmpR op_in_seq pe_bl (pe_lc (own := [("_law_one", 2)]) (g := gName 2) (tt := tYes) (te := tOrV (tCB (rIsi K) (tCons (tVar 2) (tCons (tC (.ty "bool")) tNil))) (tNotV (tCB (rIsi K) (tCons (tVar 2) (tCons (tC (.ty "int")) tNil))))) (by rfl) sc__law_fraction.nd (pi_tup (pv 0)) (blkOk_by (own := [("_law_one", 2)]) (N := ["_law_found", "_law_due", "_law_one"]) (sc := defScope s__law_fraction) (by decide +kernel)) (fun _ _ _ _ _ => by exact (pg_name (i := 2) sc__law_fraction.nd rfl (.inl rfl))) (fun _ _ _ _ _ => by exact pts_nil) (fun _ _ _ _ _ => by exact (pe_or (pe_callB call_isi (by rfl) z.isinstance (by decide +kernel) (pa_cons (pv 2) (pa_cons (pe_bltn (v := .ty "bool") (by rfl) z.bool (by decide +kernel) rfl) pa_nil))) (pe_one (pe_not (pe_callB call_isi (by rfl) z.isinstance (by decide +kernel) (pa_cons (pv 2) (pa_cons (pe_bltn (v := .ty "int") (by rfl) z.int (by decide +kernel) rfl) pa_nil)))))))) (by rfl)))))), ?_⟩
    refine ⟨_, rfl, _, .ty "tuple", _, _, true, rfl, .ty _, .base (.tup ha), kit_ty (by decide +kernel), _, rfl, iteF ⟨_, rfl, a, _, rfl, .inr (SqT.of ha), rfl, _, rfl, iteF ⟨_, rfl, _, rfl, .tuple [.int x, .int y], .tuple [.int x, .int y], .tup (SqT.of ha) (.cons (.int _) (.cons (.int _) .nil)), .tup (SqT.of hc) (.cons (.int _) (.cons (.int _) .nil)), rfl, rfl, _, rfl, ?_⟩⟩⟩
    refine iteC (c := !PyData.eqv (.tuple [.int x, .int y]) (.tuple [.int x, .int y])) (d := false) (by rw [eqv2]; rfl) (iteF ?_)
    refine ⟨_, rfl, a, rfl, ⟨_, SqT.of ha⟩, fun D hD => ?_⟩
    refine lc_tup (K := K) (a := a) (xs := [.int x, .int y]) (fun i H4 => Same H H4 ∧ H4 D = some (.lst (List.replicate i (V.bl false)))) ⟨same_new hD, upd_same⟩ (fun i H4 _ hP => SqT.of (hP.1 _ _ ha)) (fun i x' H4 hi hP => ?_) (fun H4 hP => ?_)
    · obtain ⟨s4, hD4⟩ := hP
      have kx : ∃ j : Int, x' = .int j ∧ i < 2 := by
        match i, hi with
        | 0, hi => exact ⟨_, (Option.some.inj hi).symm, by decide⟩
        | 1, hi => exact ⟨_, (Option.some.inj hi).symm, by decide⟩
        | k + 2, hi => simp at hi
      obtain ⟨j, rfl, i2⟩ := kx
      refine ⟨rfl, _, rfl, _, .ty "bool", _, _, false, rfl, .ty _, .base (.int j), kit_ty (by decide +kernel), _, rfl, ?_⟩
      refine iteF ⟨_, rfl, _, .ty "int", _, _, true, rfl, .ty _, .base (.int j), kit_ty (by decide +kernel), _, rfl, _, hD4, ?_, fun b' o' e' => ?_, ?_⟩
      · rw [List.length_replicate]
        exact small1000' (by omega)
      · rw [upd_ne (ne_of_none e' hD)]
        exact s4 _ _ e'
      · rw [upd_same]
        exact congrArg (fun l => some (HO.lst l)) (List.replicate_succ').symm
    obtain ⟨s4, hD4⟩ := hP
    exact ⟨D, _, rfl, .inl (SqL.of hD4), rfl, rfl, _, rfl, q H4 s4⟩
theorem sc__law_refused : FnScope ["_law_form", "_law_thing", "_law_found", "e", "_law_marks"] ["_law_form", "_law_thing"] (defScope s__law_refused) := ⟨rfl, rfl, rfl, by decide +kernel, rfl, by decide +kernel, by decide +kernel⟩
theorem ok__law_refused {f : Addr} {fd : FuncData} {C : Addr} (T : FTxt K mg C) {CE CU CN CT : Addr} (X : Errs K mg CE CU CN CT) (EC : PySem.ErrX.ErrC K mg "Unfit" CU) (F : Fun K "_law_refused" "_law_refused" s__law_refused f fd) (z : Zs mg) (m_value : CalMX P w K mg base 4 C "value" ["self", "word"] (spVal K C CU)) : FnOk P w K mg base CX0 5 f fd ["_law_form", "_law_thing"] (spRefused K C) := by
  refine F.ok sc__law_refused (fun vs H Q E h => ?_) (fun cdv A outer s H vs Q E hr h => ?_)
  · obtain ⟨p, w, pt, m, st, x, rfl, _⟩ := h
    rfl
  · obtain ⟨p, w, pt, m, st, x, rfl, hf, hx, q⟩ := h
    obtain ⟨⟨dx, ho⟩, hw, h0, h1⟩ := id hf
    refine ⟨_, (pss_cons (ps_set (i := 2) sc__law_refused.nd rfl (.inl rfl) pe_non)
      (pss_cons (ps_try_as (i := 3) (c := .ref CE) (tb := fun W => tDrop (tMethX C "value" (spVal K C CU) (WE W) (tVar 0) (tCons (tVar 1) tNil))) (ts := fun a cls d => tSeq (tAsg (tLst (tCons (tCB (rIsX K a cls d) (tCons (tVar 3) (tCons (tC (.ref CU)) tNil))) (tCons (tCB (rIsX K a cls d) (tCons (tVar 3) (tCons (tC (.ref CN)) tNil))) (tCons (tCB (rIsX K a cls d) (tCons (tVar 3) (tCons (tC (.ref CT)) tNil))) tNil)))) (gName 4)) (tIfS (tTest (tOp (rEqD K) (tVar 4) (tLst (tCons (tC (.bl true)) (tCons (tC (.bl false)) (tCons (tC (.bl false)) tNil)))))) (tAsg (tXf a cls d CU "at" (tVar 3)) (gName 2)) tNext)) rfl rfl sc__law_refused.nd rfl rfl ⟨rfl, by decide, .inl X.gE⟩ takes0 (fun W pn xe tk _ => (pss_one (ps_expr (pe_calmxS (pv 0) T.cl m_value hr tk (pa_cons (pv 1) pa_nil)))))
      (fun a oe cls d pn hz hf => (pss_cons (ps_set (i := 4) sc__law_refused.nd rfl (.inl rfl) (pe_lst (pa_cons (pe_callB (call_isX hz hf) (by rfl) z.isinstance (by decide +kernel) (pa_cons (pv 3) (pa_cons (pe_glob (v := .ref CU) (by rfl) X.gU rfl) pa_nil))) (pa_cons (pe_callB (call_isX hz hf) (by rfl) z.isinstance (by decide +kernel) (pa_cons (pv 3) (pa_cons (pe_glob (v := .ref CN) (by rfl) X.gN rfl) pa_nil))) (pa_cons (pe_callB (call_isX hz hf) (by rfl) z.isinstance (by decide +kernel) (pa_cons (pv 3) (pa_cons (pe_glob (v := .ref CT) (by rfl) X.gT rfl) pa_nil))) pa_nil)))))
      (pss_one (ps_if (pt_cmpR (op_eqD (by exact hr.units)) (pv 4) (pe_lst (pa_cons pe_bl (pa_cons pe_bl (pa_cons pe_bl pa_nil)))) (nomark _)) (pss_one (ps_set (i := 2) sc__law_refused.nd rfl (.inl rfl) (by exact (pe_xf (E1.ErrC.xf EC) X.noA hz hf (pv 3))))) pss_nil)))))
      (pss_one (ps_ret (pe_and (pe_cmpR op_eq (pv 2) pe_int (nomark _)) (pe_one (pe_not (pe_callB call_isi (by rfl) z.isinstance (by decide +kernel) (pa_cons (pv 2) (pa_cons (pe_bltn (v := .ty "bool") (by rfl) z.bool (by decide +kernel) rfl) pa_nil)))))))))), ?_⟩
    refine ⟨_, rfl, p, dx, _, rfl, ho, fl_no (by decide +kernel), _, rfl, p, w, pt, m, st, x, rfl, hf, .inr ⟨hx, fun d hd => ⟨true, X.ex, fun _ a ha => ?_, fun z => nomatch z⟩⟩⟩
    have s1 := same_new (o := .xd [("at", .int 0)]) hd
    refine ⟨_, rfl, CU, _, _, true, rfl, X.XU, rfl, (fun u h => h), (fun dd e => by cases e; exact ⟨_, upd_same⟩), X.kU, _, rfl, CU, _, _, false, rfl, X.XU, rfl, (fun u h => h), (fun dd e => by cases e; exact ⟨_, upd_same⟩), X.kN, _, rfl, CU, _, _, false, rfl, X.XU, rfl, (fun u h => h), (fun dd e => by cases e; exact ⟨_, upd_same⟩), X.kT, (by show 3 ≤ sizeLine; decide), fun l2 hl2 => ?_⟩
    have s2 := same_new (o := .lst [.bl true, .bl false, .bl false]) hl2
    refine ⟨_, rfl, (by show 3 ≤ sizeLine; decide), fun l3 hl3 => ?_⟩
    have s3 := same_new (o := .lst [.bl true, .bl false, .bl false]) hl3
    refine ⟨.list [.bool true, .bool false, .bool false], .list [.bool true, .bool false, .bool false], .lst (SqL.of (s3 _ _ upd_same)) (.cons (.bl _) (.cons (.bl _) (.cons (.bl _) .nil))), .lst (SqL.of upd_same) (.cons (.bl _) (.cons (.bl _) (.cons (.bl _) .nil))), (by decide +kernel), (by decide +kernel), _, rfl, ?_⟩
    refine iteC (c := PyData.eqv (.list [.bool true, .bool false, .bool false]) (.list [.bool true, .bool false, .bool false])) (d := true) (SeqAt.eqv_refl _ (by decide +kernel)) (iteT ?_)
    refine ⟨_, rfl, rfl, rfl, d, _, _, rfl, s3 _ _ (s2 _ _ upd_same), rfl, ?_⟩
    exact ⟨_, rfl, rfl, _, rfl, iteT ⟨_, rfl, _, .ty "bool", _, _, false, rfl, .ty _, .base (.int _), kit_ty (by decide +kernel), _, rfl, q _ (s1.trans (s2.trans s3))⟩⟩
end
end E1

namespace E1
open PySem PySem.Spec PyProof.Rows L2
theorem lowT_divP {t b : Int} (hb : 0 < b) : t / gI t b = lowT t b ∧ b / gI t b = lowB t b := by
  unfold lowT lowB
  rw [if_neg (by omega), if_neg (by omega)]
  exact ⟨rfl, rfl⟩
theorem lawR_zero (m : Mn) {t b : Int} (hb : 0 < b) (h : t % b = 0) : lawR m t b = t / b := by
  cases m <;> simp [lawR, h, hb]
theorem pick7 {r : Int} (h0 : 0 ≤ r) (h1 : r < 7) : ∃ m : Mn, atI [V.str "down", V.str "up", V.str "in", V.str "out", V.str "half", V.str "even", V.str "far"] r = some (.str m.str) := by
  rcases (by omega : r = 0 ∨ r = 1 ∨ r = 2 ∨ r = 3 ∨ r = 4 ∨ r = 5 ∨ r = 6) with rfl | rfl | rfl | rfl | rfl | rfl | rfl
  · exact ⟨.down, rfl⟩
  · exact ⟨.up, rfl⟩
  · exact ⟨.inn, rfl⟩
  · exact ⟨.out, rfl⟩
  · exact ⟨.half, rfl⟩
  · exact ⟨.even, rfl⟩
  · exact ⟨.far, rfl⟩
theorem pick2 {r : Int} (h0 : 0 ≤ r) (h1 : r < 2) : ∃ st : Bool, atI [V.str "wrap", V.str "stop"] r = some (.str (endS st)) := by
  rcases (by omega : r = 0 ∨ r = 1) with rfl | rfl
  · exact ⟨false, rfl⟩
  · exact ⟨true, rfl⟩
/-- a fraction in lowest terms is worth the same -/
theorem low_cross {x y : Int} (hy : 0 < y) : lowT x y * y = x * lowB x y := by
  have g0 := gI_pos (t := x) (show y ≠ 0 by omega)
  have d1 : gI x y ∣ x := Int.gcd_dvd_left x y
  have d2 : gI x y ∣ y := Int.gcd_dvd_right x y
  rw [← (lowT_divP hy).1, ← (lowT_divP hy).2]
  obtain ⟨u, hu⟩ := d1
  obtain ⟨v, hv⟩ := d2
  generalize gI x y = g at *
  have e1 : x / g = u := by
    rw [hu]
    exact Int.mul_ediv_cancel_left _ (by omega)
  have e2 : y / g = v := by
    rw [hv]
    exact Int.mul_ediv_cancel_left _ (by omega)
  rw [e1, e2, hu, hv]
  rw [Int.mul_left_comm u g v, Int.mul_assoc]
theorem steps_is (m : Mn) {pt t b x y : Int} (hb : 0 < b) (hy : 0 < y) (h : x * twoB (-pt) * b = t * (y * twoT (-pt))) : steps pt m x y = lawR m t b := by
  have hT := twoT_pos (-pt)
  have hY : 0 < y * twoT (-pt) := Int.mul_pos hy hT
  have hL := low_pos' (t := x * twoB (-pt)) (b := y * twoT (-pt)) (by omega)
  unfold steps
  rw [f_lawR m hL, ← lawR_eq m hb hY h]
  exact lawR_eq m hY hL (low_cross hY)
theorem two_succ {x : Int} (h : 1 ≤ x) : two x = 2 * two (x - 1) := by
  unfold two
  have e : x.toNat = (x - 1).toNat + 1 := by omega
  rw [e, Int.pow_succ, Int.mul_comm]

def CPowW (i j : Int) : Prop := 0 ≤ j ∧ (Builtin.Int.intBits i : Int) * j ≤ 2 ^ 27
theorem op_powW {X : Cx} : OpR X (binaryOp .Pow) (rI CPowW fun i j => .int (i ^ j.toNat)) := opI fun _ _ _ _ _ _ _ hc q => pow_int hc.1 hc.2 q
def spLaw (K : PySem.W.Frag) : Sp := fun vs H Q _ => ∃ (a : Addr) (ns : List Int), vs = [.ref a] ∧ SqL K H a (ns.map V.int) ∧ ns.length ≤ 63 ∧ ∀ H', Q (.bl true) H'
def WdOk (w : Option Int) (n : Int) : Prop := inR w n = true ∧ n.natAbs < 2 ^ 1400
structure LM (w : Option Int) (le mn : Int) : Prop where
  pos : 0 < mn
  bd : mn.natAbs < 2 ^ 140
  ok : ∀ r, 0 ≤ r → r < mn → WdOk w (le + r)
  bl : le.natAbs < 2 ^ 140
  out : ∀ x, w = some x → le = lst x ∧ mn = two x
theorem two_ge {n : Int} (h : 1 ≤ n) : 2 ≤ two n := by
  have := two_succ h
  have := two_pos (n - 1)
  omega
theorem two_le {x : Int} (h : x ≤ 64) : two x ≤ 18446744073709551616 := by
  have h1 : (2 : Nat) ^ x.toNat ≤ 2 ^ 64 := Nat.pow_le_pow_right (by decide) (by omega)
  have h2 : (two x).natAbs = 2 ^ x.toNat := by
    unfold two
    rw [Int.natAbs_pow]
    rfl
  have h3 : (18446744073709551616 : Nat) = 2 ^ 64 := by decide
  omega
theorem in_iff {x n : Int} : inR (some x) n = true ↔ lst x ≤ n ∧ n ≤ grt x := by
  show (decide (lst x ≤ n) && decide (n ≤ grt x)) = true ↔ _
  rw [Bool.and_eq_true, decide_eq_true_eq, decide_eq_true_eq]
theorem in_not {x n : Int} (h : ¬ (lst x ≤ n ∧ n ≤ grt x)) : inR (some x) n = false := by
  cases e : inR (some x) n with
  | false => rfl
  | true => exact absurd (in_iff.mp e) h
theorem wd_small {w : Option Int} (hw : WOk w) {n : Int} (h0 : -1 ≤ n) (h1 : n ≤ 1) : WdOk w n := by
  refine ⟨?_, up (show n.natAbs < 2 ^ 2 by omega) (by decide)⟩
  cases w with
  | none => rfl
  | some x =>
    obtain ⟨x0, x1⟩ := hw x rfl
    have := two_ge (n := x - 1) (by omega)
    rw [in_iff]
    unfold lst grt
    omega
theorem lm_none : LM none (0 - 10 ^ 40 + 1) (2 * 10 ^ 40 - 1) := by
  refine ⟨by decide, by decide, fun r h0 h1 => ⟨rfl, up (show (0 - 10 ^ 40 + 1 + r).natAbs < 2 ^ 140 by omega) (by decide)⟩, by decide, fun x h => nomatch h⟩
theorem lm_some {x : Int} (h0 : 2 ≤ x) (h1 : x ≤ 64) : LM (some x) (lst x) (two x) := by
  have e := two_succ (x := x) (by omega)
  have p := two_pos (x - 1)
  have u := two_le h1
  refine ⟨by omega, by omega, fun r r0 r1 => ⟨?_, ?_⟩, ?_, fun y h => by cases h; exact ⟨rfl, rfl⟩⟩
  · rw [in_iff]
    unfold lst grt
    omega
  · unfold lst
    exact up (show (-(two (x - 1)) + r).natAbs < 2 ^ 140 by omega) (by decide)
  · unfold lst
    omega
/-- the words of the law, at L -/
structure WL (H : Hp) (L : Addr) (w : Option Int) (ws : List Int) : Prop where
  at_ : H L = some (.lst (ws.map V.int))
  l0 : 2 ≤ ws.length
  l1 : ws.length ≤ 30
  ok : ∀ n ∈ ws, WdOk w n
theorem last_at {ws : List Int} {k : Nat} (hk : 1 ≤ k) (h : k ≤ ws.length) : ∃ a ∈ ws, atI (ws.map V.int) (-(k : Int)) = some (.int a) := by
  have hl : ws.length - k < ws.length := by omega
  refine ⟨ws[ws.length - k], List.getElem_mem hl, ?_⟩
  have e : ixN (ws.map V.int).length (-(k : Int)) = some (ws.length - k) := by
    rw [List.length_map]
    unfold ixN
    rw [if_neg (by omega), if_pos (by omega)]
    exact congrArg some (by omega)
  unfold atI
  rw [e]
  show (ws.map V.int)[ws.length - k]? = _
  rw [List.getElem?_map, List.getElem?_eq_getElem hl]
  rfl
theorem sq_nn (a : Int) : 0 ≤ a ^ (2 : Int).toNat := by
  have e : a ^ (2 : Int).toNat = a * a := by
    show a ^ 2 = a * a
    rw [Int.pow_succ, Int.pow_succ, Int.pow_zero, Int.one_mul]
  rw [e]
  rcases Int.le_total 0 a with h | h
  · exact Int.mul_nonneg h h
  · exact Int.mul_nonneg_of_nonpos_of_nonpos h h
theorem small_of {y a : Int} (h0 : 2 ≤ y) (h1 : y ≤ 64) (h : WdOk (some y) a) : a.natAbs < 2 ^ 64 := by
  have h2 := in_iff.mp h.1
  have e := two_succ (x := y) (by omega)
  have p := two_pos (y - 1)
  have u := two_le h1
  unfold lst grt at h2
  have h3 : (18446744073709551616 : Nat) = 2 ^ 64 := by decide
  omega
theorem steps_val {m : Mn} {n pt : Int} : steps pt m (valT n pt) (valB n pt) = n := by
  have B0 : 0 < 1 * twoB (-pt) := by
    rw [Int.one_mul]
    exact twoB_pos _
  have hy : 0 < valB n pt := low_pos' (by omega)
  have rel : valT n pt * twoB (-pt) * 1 = n * (valB n pt * twoT (-pt)) := by
    have c := low_cross (x := n * twoT (-pt)) B0
    have c' : valT n pt * (1 * twoB (-pt)) = n * twoT (-pt) * valB n pt := c
    rw [Int.one_mul] at c'
    rw [Int.mul_one, c', Int.mul_assoc, Int.mul_comm (twoT (-pt))]
  rw [steps_is m (t := n) (b := 1) (by decide) hy rel, lawR_zero m (by decide) (Int.emod_one n), Int.ediv_one]
theorem word_in {w : Option Int} {st : Bool} {n : Int} (h : inR w n = true) : wordF w st n = n := by
  cases w with
  | none => rfl
  | some x => exact if_pos h
theorem valT_lt {n pt : Int} (h : n.natAbs < 2 ^ 1400) (p : -64 ≤ pt) : (valT n pt).natAbs < 2 ^ 1500 := up2 lowT_le (wide_lt h (twoT_lt (by omega))) (by decide)
theorem valB_lt {n pt : Int} (p : pt ≤ 64) : (valB n pt).natAbs < 2 ^ 1500 := by
  have h := lowB_le (t := n * twoT (-pt)) (b := 1 * twoB (-pt))
  rw [Int.one_mul] at h
  refine up2 (y := (twoB (-pt)).natAbs) ?_ (twoB_lt (by omega)) (by decide)
  unfold valB
  rw [Int.one_mul]
  exact h
theorem valB_pos {n pt : Int} : 0 < valB n pt := by
  have B0 : 0 < 1 * twoB (-pt) := by
    rw [Int.one_mul]
    exact twoB_pos _
  exact low_pos' (by omega)
theorem rep_map (n : Nat) : (List.replicate n true).map V.bl = List.replicate n (V.bl true) := by rw [List.map_replicate]
theorem rep_all (n : Nat) : (List.replicate n true).all id = true := by
  rw [List.all_eq_true]
  intro x h
  exact (List.mem_replicate.mp h).2
theorem rep_more (n : Nat) : List.replicate n (V.bl true) ++ [V.bl true] = List.replicate (n + 1) (V.bl true) := by rw [List.replicate_succ']
theorem notI {K : PySem.W.Frag} {H : Hp} {w : Option Int} {x : V} {t : String} (ty : ∀ H', Same H H' → TyX K H' x (.type t)) (k : kitB t "int" = some false) : NoWord K H w x := .inr fun H' s => .inr (.inr ⟨rfl, t, ty H' s, k⟩)
theorem notB {K : PySem.W.Frag} {H : Hp} {w : Option Int} {b : Bool} : NoWord K H w (.bl b) := .inr fun _ _ => .inr (.inl ⟨b, rfl, rfl⟩)
section
variable {P : Program} {w : World} {K : PySem.W.Frag} {mg : Str → Option Value} {base : Heap}
theorem sc_law : FnScope ["_law_script", "_law_well_here", "_law_width", "_law_point", "_law_manner", "_law_form", "_law_least", "_law_many", "_law_words", "_law_k", "_law_entry", "_law_due", "_law_some", "_law_thing"] ["_law_script"] (defScope s_law) := ⟨rfl, rfl, rfl, by decide +kernel, rfl, by decide +kernel, by decide +kernel⟩
theorem ok_law {f : Addr} {fd : FuncData} {C : Addr} (T : FTxt K mg C) {CU : Addr} (F : Fun K "law" "law" s_law f fd) (z : Zs mg) (c__law_cell_at : Cal P w K mg base 1 "_law_cell_at" ["_law_script", "_law_k"] (spCell K)) (c__law_well : Cal P w K mg base 1 "_law_well" ["_law_cell"] spWell) (c__law_draw : Cal P w K mg base 1 "_law_draw" ["_law_well_here", "_law_many"] spDraw) (c_Form_4 : CalC P w K mg base 3 "Form" C ["self", "width", "point", "manner", "ends"] [] (spInit C)) (c__law_value : Cal P w K mg base 1 "_law_value" ["_law_entry", "_law_point"] spLVal) (c__law_fraction : Cal P w K mg base 1 "_law_fraction" ["_law_found", "_law_due"] spLFrac) (c__law_refused : Cal P w K mg base 5 "_law_refused" ["_law_form", "_law_thing"] (spRefused K C)) (m_value : CalMX P w K mg base 4 C "value" ["self", "word"] (spVal K C CU)) (m_value_k : CalMXK P w K mg base 4 C "value" ["self", "word"] ["word"] (fun vs zs => vs ++ zs) (spVal K C CU)) (m_kept : CalM P w K mg base 5 C "kept" ["self", "value"] (spKept K C)) : FnOk P w K mg base CX0 6 f fd ["_law_script"] (spLaw K) := by
  refine F.ok sc_law (fun vs H Q E h => ?_) (fun cdv A outer s H vs Q E hr h => ?_)
  · obtain ⟨a, ns, rfl, _⟩ := h
    rfl
  · obtain ⟨as, ns, rfl, hS, hlen, q⟩ := h
    refine ⟨_, (pss_cons (ps_set (i := 1) sc_law.nd rfl (.inl rfl) (pe_cal c__law_well hr (pa_cons (pe_cal c__law_cell_at hr (pa_cons (pv 0) (pa_cons pe_int pa_nil))) pa_nil)))
      (pss_cons (ps_set (i := 2) sc_law.nd rfl (.inl rfl) (pe_op op_add pe_int (pe_cal c__law_draw hr (pa_cons (pv 1) (pa_cons pe_int pa_nil)))))
      (C8.pss_cut (ps_if (pt_cmpR op_eq (pe_cal c__law_draw hr (pa_cons (pv 1) (pa_cons pe_int pa_nil))) pe_int (nomark _)) (pss_one (ps_set (i := 2) sc_law.nd rfl (.inl rfl) pe_non)) pss_nil)
      (pss_cons (ps_set (i := 3) sc_law.nd rfl (.inl rfl) (pe_op op_sub (pe_cal c__law_draw hr (pa_cons (pv 1) (pa_cons pe_int pa_nil))) pe_int))
      (pss_cons (ps_set (i := 4) sc_law.nd rfl (.inl rfl) (pe_ix ix_list (pe_lst (pa_cons pe_str (pa_cons pe_str (pa_cons pe_str (pa_cons pe_str (pa_cons pe_str (pa_cons pe_str (pa_cons pe_str pa_nil)))))))) (pe_cal c__law_draw hr (pa_cons (pv 1) (pa_cons pe_int pa_nil))) (fun _ _ => rfl)))
      (pss_cons (ps_set (i := 5) sc_law.nd rfl (.inr rfl) (pe_calc c_Form_4 hr (pa_cons (pv 2) (pa_cons (pv 3) (pa_cons (pv 4) (pa_cons (pe_ix ix_list (pe_lst (pa_cons pe_str (pa_cons pe_str pa_nil))) (pe_cal c__law_draw hr (pa_cons (pv 1) (pa_cons pe_int pa_nil))) (fun _ _ => rfl)) pa_nil))))))
      (pss_cons (ps_set (i := 6) sc_law.nd rfl (.inl rfl) (pe_op op_add (pe_op op_sub pe_int (pe_op op_pow pe_int pe_int)) pe_int))
      (pss_cons (ps_set (i := 7) sc_law.nd rfl (.inl rfl) (pe_op op_sub (pe_op op_mul pe_int (pe_op op_pow pe_int pe_int)) pe_int))
      (C8.pss_cut (ps_if (pt_cmpR op_notN (pv 2) pe_non (nomark _)) (pss_cons (ps_set (i := 6) sc_law.nd rfl (.inl rfl) (pe_op op_sub pe_int (pe_op op_shl pe_int (pe_op op_sub (pv 2) pe_int))))
      (pss_one (ps_set (i := 7) sc_law.nd rfl (.inl rfl) (pe_op op_shl pe_int (pv 2))))) pss_nil)
      (pss_cons (ps_set (i := 8) sc_law.nd rfl (.inl rfl) (pe_lst (pa_cons pe_int (pa_cons pe_int (pa_cons (pe_un un_neg pe_int) (pa_cons (pv 6) (pa_cons (pe_op op_sub (pe_op op_add (pv 6) (pv 7)) pe_int) pa_nil)))))))
      (C8.pss_cut (ps_if (pt_cmpR op_isN (pv 2) pe_non (nomark _)) (pss_one (ps_set (i := 8) sc_law.nd rfl (.inl rfl) (pe_op op_cat (pv 8) (pe_lst (pa_cons (pe_op op_powW (pe_op op_pow pe_int pe_int) pe_int) (pa_cons (pe_op op_sub pe_int (pe_op op_powW (pe_op op_pow pe_int pe_int) pe_int)) pa_nil)))))) pss_nil)
      (pss_cons (ps_for PassesOwn.never rfl (pi_range2 (by rfl) z.range (pa_cons pe_int (pa_cons pe_int pa_nil))) (pg_name (i := 9) sc_law.nd rfl (.inl rfl)) (pss_cons (ps_set (i := 1) sc_law.nd rfl (.inl rfl) (pe_cal c__law_well hr (pa_cons (pe_cal c__law_cell_at hr (pa_cons (pv 0) (pa_cons (pv 9) pa_nil))) pa_nil)))
      (pss_one (ps_expr (pe_bm PySem.F.plainAttrs_list PySem.F.slot_list_append PySem.F.type_list_append mt_append (pv 8) (pa_cons (pe_op op_add (pv 6) (pe_op op_mod (pe_op op_add (pe_op op_mul (pe_cal c__law_draw hr (pa_cons (pv 1) (pa_cons (pv 7) pa_nil))) (pe_op op_add pe_int (pe_cal c__law_draw hr (pa_cons (pv 1) (pa_cons pe_int pa_nil))))) (pe_cal c__law_draw hr (pa_cons (pv 1) (pa_cons pe_int pa_nil)))) (pv 7))) pa_nil))))))
      (pss_cons (ps_for PassesOwn.never rfl (pi_list (pv 8)) (pg_name (i := 10) sc_law.nd rfl (.inl rfl)) (pss_cons (ps_set (i := 11) sc_law.nd rfl (.inl rfl) (pe_cal c__law_value hr (pa_cons (pv 10) (pa_cons (pv 3) pa_nil))))
      (pss_cons (ps_if (PW.pt (pw_or (pt_not (pt_val (pe_cal c__law_fraction hr (pa_cons (pe_calmx (pv 5) T.cl m_value hr (pa_cons (pv 10) pa_nil)) (pa_cons (pv 11) pa_nil))))) (pw_or1 (pt_not (pt_val (pe_cal c__law_fraction hr (pa_cons (pe_calmkx0 (pv 5) T.cl m_value_k hr (pk_cons (pv 10) pk_nil)) (pa_cons (pv 11) pa_nil)))))))) (pss_one (ps_ret pe_bl)) pss_nil)
      (pss_one (ps_if (pt_cmpR (op_neD hr.units) (pe_calm (pv 5) T.cl m_kept hr (pa_cons (pv 11) pa_nil)) (pe_tup (pa_cons (pv 10) (pa_cons pe_int pa_nil))) (nomark _)) (pss_one (ps_ret pe_bl)) pss_nil)))))
      (pss_cons (ps_set (i := 12) sc_law.nd rfl (.inl rfl) (pe_lst (pa_cons pe_non (pa_cons pe_bl (pa_cons pe_bl (pa_cons pe_str (pa_cons (pe_tup (pa_cons pe_int pa_nil)) (pa_cons (pe_lst (pa_cons pe_int pa_nil)) (pa_cons pe_dnewK pa_nil)))))))))
      (C8.pss_cut (ps_if (pt_cmpR op_notN (pv 2) pe_non (nomark _)) (pss_one (ps_set (i := 12) sc_law.nd rfl (.inl rfl) (pe_op op_cat (pv 12) (pe_lst (pa_cons (pe_op op_sub (pv 6) pe_int) (pa_cons (pe_op op_add (pv 6) (pv 7)) (pa_cons (pe_op op_sub (pe_op op_sub (pv 6) pe_int) (pe_op op_pow (pe_ix ix_list (pv 8) (pe_un un_neg pe_int) (fun _ _ => rfl)) pe_int)) (pa_cons (pe_op op_add (pe_op op_sub pe_int (pe_op op_mul pe_int (pv 6))) (pe_op op_pow (pe_ix ix_list (pv 8) (pe_un un_neg pe_int) (fun _ _ => rfl)) pe_int)) pa_nil)))))))) pss_nil)
      (pss_one (ps_ret (pe_callB (cr_all rfl) (by rfl) z.all (by decide +kernel) (pa_cons (pe_lc (own := [("_law_thing", 13)]) (g := gName 13) (tt := tYes) (te := tCall (spRefused K C) [] E0 (tCons (tVar 5) (tCons (tVar 13) tNil))) (by rfl) sc_law.nd (pi_list (pv 12)) (blkOk_by (own := [("_law_thing", 13)]) (N := ["_law_script", "_law_well_here", "_law_width", "_law_point", "_law_manner", "_law_form", "_law_least", "_law_many", "_law_words", "_law_k", "_law_entry", "_law_due", "_law_some", "_law_thing"]) (sc := defScope s_law) (by decide +kernel)) (fun _ _ _ _ _ => by exact (pg_name (i := 13) sc_law.nd rfl (.inl rfl))) (fun _ _ _ _ _ => by exact pts_nil) (fun _ _ _ _ _ => by exact (pe_cal c__law_refused hr (pa_cons (pv 5) (pa_cons (pv 13) pa_nil))))) pa_nil))))))))))))))))))), ?_⟩
    refine ⟨_, rfl, as, ns, 0, rfl, hS, _, rfl, fun w1 hw1 Hw s1 k1 => ?_⟩
    refine ⟨_, rfl, w1, 0, 63, rfl, k1, by omega, by decide, by decide, fun r1 H1 r10 r11 d1 d1' ww1 => ⟨_, _, rfl, rfl, ?_⟩⟩
    refine ⟨fun σ H' => ∃ w : Option Int, σ = [some (.ref as), some (.ref w1), some (wV w), none, none, none, none, none, none, none, none, none, none, none] ∧ WOk w ∧ Drw w1 Hw H' ∧ WellAt H' w1 2, ?_, fun σ H' hM => ?_⟩
    · refine ⟨_, rfl, w1, 0 + 1, 5, rfl, ww1, by omega, by decide, by decide, fun r2 H2 r20 r21 d2 d2' w2 => ⟨rfl, _, rfl, ite2 (fun _ => ?_) (fun _ => ?_)⟩⟩
      · exact ⟨none, rfl, (fun x hx => nomatch hx), Drw.trans ⟨d1, d1'⟩ ⟨d2, d2'⟩, w2.mono (by omega)⟩
      · exact ⟨some (2 + r1), rfl, (fun x hx => by cases hx; omega), Drw.trans ⟨d1, d1'⟩ ⟨d2, d2'⟩, w2.mono (by omega)⟩
    obtain ⟨w, rfl, hw, D2, W2⟩ := hM
    clear d1 d1' ww1
    refine ⟨_, rfl, w1, 2, 129, rfl, W2, by omega, by decide, by decide, fun r3 H3 r30 r31 d3 d3' w3 => ⟨_, _, rfl, rfl, ?_⟩⟩
    have q0 : -64 ≤ r3 - 64 := by omega
    have q1 : r3 - 64 ≤ 64 := by omega
    refine ⟨(by show 7 ≤ sizeLine; decide), fun l hl => ?_⟩
    refine ⟨_, rfl, w1, 2 + 1, 7, rfl, (w3.same (same_new hl)), by omega, by decide, by decide, fun r4 H4 r40 r41 d4 d4' w4 => ?_⟩
    obtain ⟨m, hm⟩ := pick7 r40 r41
    refine ⟨l, _, _, _, rfl, rfl, SqL.of (d4 _ _ (w3.ne hl) upd_same), hm, ?_⟩
    refine ⟨_, rfl, _, rfl, _, rfl, (by show 2 ≤ sizeLine; decide), fun l3 hl3 => ?_⟩
    refine ⟨_, rfl, w1, 2 + 1 + 1, 2, rfl, (w4.same (same_new hl3)), by omega, by decide, by decide, fun r5 H5 r50 r51 d5 d5' w5 => ?_⟩
    obtain ⟨st, hst⟩ := pick2 r50 r51
    refine ⟨l3, _, _, _, rfl, rfl, SqL.of (d5 _ _ (w4.ne hl3) upd_same), hst, ?_⟩
    have S5 : Same H H5 := same_but s1 (((D2.but.trans d3).trans ((SameBut.of (same_new hl)).trans d4)).trans ((SameBut.of (same_new hl3)).trans d5)) hw1
    refine fun x dx nx ndx ne => ⟨x, dx, w, r3 - 64, m, st, rfl, hw, q0, q1, upd_same, fun H6 fa kp _ => ⟨rfl, ?_⟩⟩
    have S6 : Same H H6 := S5.trans fun b o e => kp b o (ne_of_none e nx) (by rw [upd_ne (ne_of_none e nx), upd_ne (ne_of_none e ndx)]; exact e)
    clear d3 d3' w3 hl d4 d4' w4 hl3 d5 d5' w5 D2 W2 kp S5 nx ndx ne r10 r11
    refine ⟨_, _, rfl, rfl, ⟨by decide, by decide, by decide⟩, _, _, rfl, rfl, _, _, rfl, rfl, ?_⟩
    refine ⟨_, _, rfl, rfl, ⟨by decide, by decide, by decide⟩, _, _, rfl, rfl, .inl ⟨by decide, by decide⟩, _, _, rfl, rfl, ?_⟩
    refine ⟨fun σ H' => ∃ pt le mn : Int, σ = [some (.ref as), some (.ref w1), some (wV w), some (.int pt), some (.str m.str), some (.ref x), some (.int le), some (.int mn), none, none, none, none, none, none] ∧ -64 ≤ pt ∧ pt ≤ 64 ∧ FormAt C H6 x w pt m st ∧ LM w le mn ∧ H' = H6, ?_, fun σ H' hM => ?_⟩
    · refine ⟨_, rfl, rfl, _, rfl, ?_⟩
      cases w with
      | none => exact iteF ⟨r3 - 64, _, _, rfl, q0, q1, fa, lm_none, rfl⟩
      | some y =>
        obtain ⟨y0, y1⟩ := hw y rfl
        refine iteT ?_
        refine ⟨_, rfl, _, _, rfl, rfl, _, _, rfl, rfl, ⟨by omega, by omega, by decide⟩, _, _, rfl, rfl, ?_⟩
        refine ⟨_, rfl, _, _, rfl, rfl, ⟨by omega, by omega, by decide⟩, ?_⟩
        refine ⟨r3 - 64, _, _, rfl, q0, q1, fa, ?_, rfl⟩
        have e1 : (0 : Int) - 1 * 2 ^ (y - 1).toNat = lst y := by
          rw [Int.one_mul, Int.zero_sub]
          rfl
        have e2 : (1 : Int) * 2 ^ y.toNat = two y := Int.one_mul _
        show LM (some y) (0 - 1 * 2 ^ (y - 1).toNat) (1 * 2 ^ y.toNat)
        rw [e1, e2]
        exact lm_some y0 y1
    clear q0 q1 fa r30 r31
    obtain ⟨pt, le, mn, rfl, q0, q1, fa, lm, rfl⟩ := hM
    -- the words
    refine ⟨_, rfl, _, rfl, _, rfl, _, rfl, _, _, rfl, rfl, _, _, rfl, rfl, (by show 5 ≤ sizeLine; decide), fun L0 hL0 => ?_⟩
    have wd0 : ∀ n ∈ [0, 1, -1, le, le + mn - 1], WdOk w n := by
      intro n hn
      simp only [List.mem_cons, List.not_mem_nil, or_false] at hn
      rcases hn with rfl | rfl | rfl | rfl | rfl
      · exact wd_small hw (by decide) (by decide)
      · exact wd_small hw (by decide) (by decide)
      · exact wd_small hw (by decide) (by decide)
      · have := lm.ok 0 (by decide) lm.pos
        rw [Int.add_zero] at this
        exact this
      · have h := lm.ok (mn - 1) (by have := lm.pos; omega) (by omega)
        rw [show le + (mn - 1) = le + mn - 1 by omega] at h
        exact h
    refine ⟨fun σ H7 => ∃ (L : Addr) (ws : List Int), σ = [some (.ref as), some (.ref w1), some (wV w), some (.int pt), some (.str m.str), some (.ref x), some (.int le), some (.int mn), some (.ref L), none, none, none, none, none] ∧ H' L = none ∧ Same H' H7 ∧ WL H7 L w ws ∧ ws.length ≤ 7, ?_, fun σ H7 hM => ?_⟩
    · refine ⟨_, rfl, rfl, _, rfl, ?_⟩
      cases w with
      | none =>
        refine iteT ⟨_, rfl, _, _, rfl, rfl, ⟨by decide, by decide, by decide⟩, _, _, rfl, rfl, ⟨by decide, by decide +kernel⟩, _, _, rfl, rfl, ⟨by decide, by decide, by decide⟩, _, _, rfl, rfl, ⟨by decide, by decide +kernel⟩, _, _, rfl, rfl, (by show 2 ≤ sizeLine; decide), fun L1 hL1 => ?_⟩
        refine ⟨L0, L1, _, _, rfl, rfl, same_new hL1 _ _ upd_same, upd_same, (by show 7 ≤ sizeLine; decide), fun L2 hL2 => ?_⟩
        refine ⟨L2, [0, 1, -1, le, le + mn - 1] ++ [(10 ^ (57 : Int).toNat) ^ (7 : Int).toNat, 1 - (10 ^ (57 : Int).toNat) ^ (7 : Int).toNat], rfl, Same.free (Same.trans (same_new hL0) (same_new hL1)) hL2, Same.trans (same_new hL0) (Same.trans (same_new hL1) (same_new hL2)), ⟨upd_same, (by show 2 ≤ 7; decide), (by show 7 ≤ 30; decide), fun n hn => ?_⟩, (by show 7 ≤ 7; decide)⟩
        rcases List.mem_append.mp hn with hn | hn
        · exact wd0 n hn
        · simp only [List.mem_cons, List.not_mem_nil, or_false] at hn
          rcases hn with rfl | rfl
          · exact ⟨rfl, by decide +kernel⟩
          · exact ⟨rfl, by decide +kernel⟩
      | some y =>
        refine iteF ?_
        exact ⟨L0, [0, 1, -1, le, le + mn - 1], rfl, hL0, same_new hL0, ⟨upd_same, (by show 2 ≤ 5; decide), (by show 5 ≤ 30; decide), wd0⟩, (by show 5 ≤ 7; decide)⟩
    obtain ⟨L, ws0, rfl, nL, s7, wl0, len0⟩ := hM
    have as7 := S6.trans s7
    refine ⟨1, 13, rfl, ⟨by decide, by decide, by decide, by decide⟩, for_range (lo := 1) (n := 12) (fun i σ H8 => ∃ (ws : List Int) (y1 y9 : Option V), σ = [some (.ref as), y1, some (wV w), some (.int pt), some (.str m.str), some (.ref x), some (.int le), some (.int mn), some (.ref L), y9, none, none, none, none] ∧ Same H' H8 ∧ WL H8 L w ws ∧ ws.length ≤ 7 + i) ⟨ws0, _, none, rfl, s7, wl0, by omega⟩ (fun i σ H8 hi hP => ?_) (fun σ H8 hP => ?_)⟩
    · obtain ⟨ws, y1, y9, rfl, s8, wl, len⟩ := hP
      refine ⟨_, rfl, _, rfl, as, ns, 1 + i, ?_, (S6.trans s8).seq hS, _, rfl, fun w2 hw2 H9 s9 k9 => ?_⟩
      · rw [Int.natCast_add]
        rfl
      have n2 : L ≠ w2 := ne_of_none wl.at_ hw2
      refine ⟨_, rfl, .inl ⟨rfl, _, SqL.of (s9 _ _ wl.at_)⟩, _, rfl, _, rfl, _, rfl, w2, 0, mn, rfl, k9, by decide, lm.pos, up lm.bd (by decide), fun ra Ha ra0 ra1 da da' wa => ?_⟩
      refine ⟨_, rfl, w2, 0 + 1, 1000, rfl, wa, by omega, by decide, by decide, fun r5 H5 r50 r51 d5 d5' w5 => ⟨_, _, rfl, rfl, _, _, rfl, rfl, .inr ⟨by omega, by omega⟩, _, rfl, w2, 0 + 1 + 1, 9, rfl, w5, by omega, by decide, by decide, fun r6 H6 r60 r61 d6 d6' w6 => ⟨_, _, rfl, rfl, _, rfl, _, _, rfl, rfl, lm.pos, _, _, rfl, rfl, ?_⟩⟩⟩
      have nw : WdOk w (le + (ra * (1 + r5) + r6) % mn) := lm.ok _ (Int.emod_nonneg _ (by have := lm.pos; omega)) (Int.emod_lt_of_pos _ lm.pos)
      have at6 : H6 L = some (.lst (ws.map V.int)) := d6 _ _ n2 (d5 _ _ n2 (da _ _ n2 (s9 _ _ wl.at_)))
      refine ⟨L, _, _, rfl, rfl, at6, (by rw [List.length_map]; exact small1000' (by have := wl.l1; omega)), ?_⟩
      have sb : SameBut w2 H9 H6 := (da.trans d5).trans d6
      have s10 : Same H8 H6 := same_but s9 sb hw2
      refine ⟨ws ++ [le + (ra * (1 + r5) + r6) % mn], _, _, rfl, fun b o e => ?_, ⟨?_, ?_, ?_, fun n hn => ?_⟩, ?_⟩
      · rw [upd_ne (ne_of_none e nL)]
        exact s10 _ _ (s8 _ _ e)
      · rw [upd_same, List.map_append]
        rfl
      · rw [List.length_append]
        have := wl.l0
        omega
      · rw [List.length_append]
        show ws.length + 1 ≤ 30
        omega
      · rcases List.mem_append.mp hn with hn | hn
        · exact wl.ok n hn
        · rw [List.mem_singleton.mp hn]
          exact nw
      · rw [List.length_append]
        show ws.length + 1 ≤ 7 + (i + 1)
        omega
    obtain ⟨ws, y1, y9, rfl, s8, wl, len⟩ := hP
    have f8 := fa.same s8
    refine ⟨_, rfl, L, rfl, ⟨_, SqL.of wl.at_⟩, for_list (xs := ws.map V.int) (fun i σ H9 => ∃ y10 y11 : Option V, σ = [some (.ref as), y1, some (wV w), some (.int pt), some (.str m.str), some (.ref x), some (.int le), some (.int mn), some (.ref L), y9, y10, y11, none, none] ∧ Same H8 H9) ⟨none, none, rfl, Same.refl _⟩ (fun i σ H9 _ hP => ?_) (fun i v σ H9 hx hP => ?_) (fun σ H9 hP => ?_)⟩
    · obtain ⟨y10, y11, rfl, s9⟩ := hP
      exact SqL.of (s9 _ _ wl.at_)
    · obtain ⟨y10, y11, rfl, s9⟩ := hP
      obtain ⟨n, hn, rfl⟩ := List.mem_map.mp (List.mem_of_getElem? hx)
      obtain ⟨ni, nb⟩ := wl.ok n hn
      refine ⟨_, rfl, _, rfl, n, pt, rfl, q0, q1, fun d hd => ?_⟩
      have sd := same_new (o := .tup [.int (valT n pt), .int (valB n pt)]) hd
      have fD := f8.same (s9.trans sd)
      obtain ⟨dx1, ho1⟩ := fD.ob
      refine ⟨_, rfl, x, dx1, _, rfl, ho1, fl_no (by decide +kernel), _, rfl, x, w, pt, m, st, .int n, rfl, fD, .inl ⟨n, rfl, ni, nb, fun r1 Ha n1 sa ra => ⟨_, rfl, r1, d, _, _, rfl, ra, sa _ _ upd_same, fun Hb sb => ⟨_, rfl, iteF ?_⟩⟩⟩⟩
      have fB := fD.same (sa.trans sb)
      obtain ⟨dx2, ho2⟩ := fB.ob
      have du : Hb d = some (.tup [.int (valT n pt), .int (valB n pt)]) := sb _ _ (sa _ _ upd_same)
      refine ⟨_, rfl, x, dx2, _, rfl, ho2, fl_no (by decide +kernel), _, rfl, rfl, x, w, pt, m, st, .int n, rfl, fB, .inl ⟨n, rfl, ni, nb, fun r2 Hc n2 sc rc => ⟨_, rfl, r2, d, _, _, rfl, rc, sc _ _ du, fun Hd sd' => ⟨_, rfl, iteF ?_⟩⟩⟩⟩
      have fE := fB.same (sc.trans sd')
      obtain ⟨dx3, ho3⟩ := fE.ob
      refine ⟨_, rfl, x, dx3, _, rfl, ho3, fl_no (by decide +kernel), _, rfl, x, w, pt, m, st, d, valT n pt, valB n pt, rfl, fE, SqT.of (sd' _ _ (sc _ _ du)), valB_pos, valT_lt nb q0, valB_lt q1, fun r3 He n3 se re => ?_⟩
      rw [steps_val, word_in ni, Int.sub_self] at re
      refine ⟨_, rfl, (by show 2 ≤ sizeLine; decide), fun e he => ⟨.tuple [.int n, .int 0], .tuple [.int n, .int 0], .tup (SqT.of (same_new he _ _ re)) (.cons (.int _) (.cons (.int _) .nil)), .tup (SqT.of upd_same) (.cons (.int _) (.cons (.int _) .nil)), rfl, rfl, _, rfl, ?_⟩⟩
      refine iteC (c := !PyData.eqv (.tuple [.int n, .int 0]) (.tuple [.int n, .int 0])) (d := false) (by rw [eqv2]; rfl) (iteF ?_)
      exact ⟨_, _, rfl, s9.trans (sd.trans (sa.trans (sb.trans (sc.trans (sd'.trans (se.trans (same_new he)))))))⟩
    obtain ⟨y10, y11, rfl, s9⟩ := hP
    refine ⟨(by show 1 ≤ sizeLine; decide), fun t1 ht1 => ⟨(by show 1 ≤ sizeLine; decide), fun l1 hl1 => fun d1 hd1 => ⟨(by show 7 ≤ sizeLine; decide), fun S hS0 => ?_⟩⟩⟩
    have u1 := same_new (o := .tup [.int 1]) ht1
    have u2 := same_new (o := .lst [.int 1]) hl1
    have u3 := same_new (o := .dK []) hd1
    have u4 := same_new (o := .lst [.non, .bl true, .bl false, .str "1", .ref t1, .ref l1, .ref d1]) hS0
    have U := s9.trans (u1.trans (u2.trans (u3.trans u4)))
    have E1 := u4 _ _ (u3 _ _ (u2 _ _ (upd_same (H := H9) (a := t1) (o := .tup [.int 1]))))
    have E2 := u4 _ _ (u3 _ _ (upd_same (H := upd H9 t1 (.tup [.int 1])) (a := l1) (o := .lst [.int 1])))
    have E3 := u4 _ _ (upd_same (H := upd (upd H9 t1 (.tup [.int 1])) l1 (.lst [.int 1])) (a := d1) (o := .dK []))
    generalize hHA : upd (upd (upd (upd H9 t1 (.tup [.int 1])) l1 (.lst [.int 1])) d1 (.dK [])) S (.lst [.non, .bl true, .bl false, .str "1", .ref t1, .ref l1, .ref d1]) = HA at *
    have hSA : HA S = some (.lst [.non, .bl true, .bl false, .str "1", .ref t1, .ref l1, .ref d1]) := by
      rw [← hHA]
      exact upd_same
    have no7 : ∀ v ∈ [V.non, .bl true, .bl false, .str "1", .ref t1, .ref l1, .ref d1], NoWord K HA w v := by
      intro v hv
      simp only [List.mem_cons, List.not_mem_nil, or_false] at hv
      rcases hv with rfl | rfl | rfl | rfl | rfl | rfl | rfl
      · exact notI (t := "NoneType") (fun _ _ => .base .non) (by decide +kernel)
      · exact notB
      · exact notB
      · exact notI (t := "str") (fun _ _ => .base (.str _)) (by decide +kernel)
      · exact notI (t := "tuple") (fun _ s => .base (.tup (s _ _ E1))) (by decide +kernel)
      · exact notI (t := "list") (fun _ s => .base (.lst (s _ _ E2))) (by decide +kernel)
      · exact notI (t := "dict") (fun _ s => .base (.dK (s _ _ E3))) (by decide +kernel)
    refine ⟨fun σ HB => ∃ (S2 : Addr) (xs : List V), σ = [some (.ref as), y1, some (wV w), some (.int pt), some (.str m.str), some (.ref x), some (.int le), some (.int mn), some (.ref L), y9, y10, y11, some (.ref S2), none] ∧ Same HA HB ∧ HB S2 = some (.lst xs) ∧ xs.length ≤ 20 ∧ ∀ v ∈ xs, NoWord K HB w v, ?_, fun σ HB hM => ?_⟩
    · refine ⟨_, rfl, rfl, _, rfl, ?_⟩
      cases w with
      | none => exact iteF ⟨S, _, rfl, Same.refl _, hSA, (by show 7 ≤ 20; decide), no7⟩
      | some y =>
        obtain ⟨y0, y1'⟩ := hw y rfl
        obtain ⟨e1, e2⟩ := lm.out y rfl
        obtain ⟨a1, m1, g1⟩ := last_at (ws := ws) (k := 1) (by decide) (by have := wl.l0; omega)
        obtain ⟨a2, m2, g2⟩ := last_at (ws := ws) (k := 2) (by decide) wl.l0
        have LA := SqL.of (K := K) (U _ _ wl.at_)
        refine iteT ⟨_, rfl, _, rfl, _, _, rfl, rfl, _, rfl, _, rfl, _, _, rfl, rfl, _, rfl, _, _, rfl, rfl, _, rfl, _, rfl, L, _, -1, _, rfl, rfl, LA, g1, _, _, rfl, rfl, ⟨by decide, by decide, small_of y0 y1' (wl.ok _ m1)⟩, _, _, rfl, rfl, _, rfl, _, _, rfl, rfl, .inl ⟨by decide, by decide⟩, _, _, rfl, rfl, _, rfl, _, rfl, L, _, -2, _, rfl, rfl, LA, g2, _, _, rfl, rfl, ⟨by decide, by decide, small_of y0 y1' (wl.ok _ m2)⟩, _, _, rfl, rfl, (by show 4 ≤ sizeLine; decide), fun B hB => ?_⟩
        refine ⟨S, B, _, _, rfl, rfl, same_new hB _ _ hSA, upd_same, (by show 11 ≤ sizeLine; decide), fun S2 hS2 => ?_⟩
        have v1 := (same_new (o := .lst [.int (le - 1), .int (le + mn), .int (le - 1 - a1 ^ (2 : Int).toNat), .int (0 - 2 * le + a2 ^ (2 : Int).toNat)]) hB).trans (same_new (o := .lst ([.non, .bl true, .bl false, .str "1", .ref t1, .ref l1, .ref d1] ++ [.int (le - 1), .int (le + mn), .int (le - 1 - a1 ^ (2 : Int).toNat), .int (0 - 2 * le + a2 ^ (2 : Int).toNat)])) hS2)
        refine ⟨S2, _, rfl, v1, upd_same, (by show 11 ≤ 20; decide), fun v hv => ?_⟩
        have q2 := two_succ (x := y) (by omega)
        have pp := two_pos (y - 1)
        have sq1 := sq_nn a1
        have sq2 := sq_nn a2
        rcases List.mem_append.mp hv with hv | hv
        · exact (no7 v hv).mono v1
        · simp only [List.mem_cons, List.not_mem_nil, or_false] at hv
          unfold lst at e1
          rcases hv with rfl | rfl | rfl | rfl
          · exact .inl ⟨_, rfl, in_not (by unfold lst grt; omega)⟩
          · exact .inl ⟨_, rfl, in_not (by unfold lst grt; omega)⟩
          · exact .inl ⟨_, rfl, in_not (by unfold lst grt; omega)⟩
          · exact .inl ⟨_, rfl, in_not (by unfold lst grt; omega)⟩
    obtain ⟨S2, xs, rfl, sB, hB, lxs, no⟩ := hM
    have fZ := f8.same (U.trans sB)
    refine ⟨_, rfl, S2, rfl, ⟨_, SqL.of hB⟩, fun D hD => ?_⟩
    refine lc_list (K := K) (a := S2) (xs := xs) (fun i H4 => Same HB H4 ∧ H4 D = some (.lst (List.replicate i (V.bl true)))) ⟨same_new hD, upd_same⟩ (fun i H4 _ hP => SqL.of (hP.1 _ _ hB)) (fun i v H4 hi hP => ?_) (fun H4 hP => ?_)
    · obtain ⟨s4, hD4⟩ := hP
      have hil : i < xs.length := by
        rcases Nat.lt_or_ge i xs.length with h | h
        · exact h
        · rw [List.getElem?_eq_none h] at hi
          cases hi
      refine ⟨rfl, _, rfl, _, rfl, x, w, pt, m, st, v, rfl, fZ.same s4, (no v (List.mem_of_getElem? hi)).mono s4, fun H5 s5 => ⟨_, s5 _ _ hD4, ?_, fun b o e => ?_, ?_⟩⟩
      · rw [List.length_replicate]
        exact small1000' (by omega)
      · rw [upd_ne (ne_of_none e hD)]
        exact s5 _ _ (s4 _ _ e)
      · rw [upd_same, rep_more]
    · obtain ⟨s4, hD4⟩ := hP
      refine ⟨D, List.replicate _ true, rfl, SqL.of (by rw [rep_map]; exact hD4), ?_⟩
      rw [rep_all]
      exact q _
end
end E1

namespace E1
open PySem PySem.Spec PyProof.Rows L2

abbrev s_Unfit___init__ : Stmt := inClass (topS 5) 0
theorem unfit_ini {P : Program} {w : World} {K : PySem.W.Frag} {mg : Str → Option Value} {C fI cc T : Addr} {to : Value} {td : Option Addr} {its : Array Value} {tn : Nat} {ts : Array (Option Value)} (lT : K.lookup T = some ⟨to, td, .seq its tn, ts⟩) (h1 : its.size = 1) (EC : PySem.ErrX.ErrC K mg "Unfit" C) (IC : PySem.ErrX.IniC P K mg C fI cc "Unfit.__init__" "at" s_Unfit___init__ (.ref T)) : PySem.ErrX.IniOk P w K mg C fI "at" := by
  refine ⟨IC.iC, IC.tC, fun A R s x t0 v MO hx hnx hroom fv hq => ?_⟩
  refine PySem.ErrX.err_init EC IC ⟨by decide +kernel, by decide +kernel, by decide +kernel, by decide +kernel, by decide +kernel⟩ rfl rfl ?_ ?_ rfl rfl MO hx hnx hroom fv ?_ hq
  · intro e he
    simp only [List.mem_cons, List.not_mem_nil, or_false] at he
    rcases he with rfl | rfl
    · exact .c (by decide)
    · exact .f
  · decide
  · intro kV doc pm an cda ct
    obtain ⟨l⟩ := its
    match l, h1 with
    | [i0], _ =>
      have hk : ∃ k, bindArgs (PySem.W.ksFn "__init__" "Unfit.__init__" (defArgs s_Unfit___init__) (defBody s_Unfit___init__) (defScope s_Unfit___init__) (.ref T) kV doc pm an (.ref cda) ct cc) ⟨[.ref x, v], []⟩ = seqItems? (.ref T) >>= k ∧ k (some [i0].toArray) = pure [(Str.ofString "self", .ref x), ("at", v)] := ⟨_, rfl, rfl⟩
      obtain ⟨k, e1, e2⟩ := hk
      refine BindsTo.of_looks fun M => ?_
      rw [e1]
      exact looks_items MO.kin lT rfl (.of_pure e2)

end E1

namespace E1
open PySem PySem.Spec PyProof.Rows L2

theorem Vals.rev : ∀ {xs : List V} {us : List Value}, Vals xs us → Vals xs.reverse us.reverse
  | _, _, .nil => .nil
  | _, _, .cons r t => by
    rw [List.reverse_cons, List.reverse_cons]
    exact Vals.append (Vals.rev t) (.cons r .nil)
section
variable {P : Program} {w : World} {K : PySem.W.Frag} {mg : Str → Option Value} {base : Heap} {x : Str} {st : Stmt} {f : Addr} {fd : FuncData} {ps ks : List Str} {k n : Nat} {sp : Sp}
/-- a def without defaults: its arguments by keywords alone or behind others -/
theorem Fun.kbn {qual : Str} (F : Fun K x qual st f fd) {g : List Value → List Value → List Value} {gV : List V → List V → List V} (hrel : ∀ {vs : List V} {us : List Value} {zs : List V} {ws : List Value}, Vals vs us → Vals zs ws → Vals (gV vs zs) (g us ws))
    (h : ∀ (kV doc pm : Value) (an : Option Addr) (cdv ct : Value) (us ws : List Value), us.length = n → ws.length = ks.length → bindArgs (PySem.W.fnOf x qual (defArgs st) (defBody st) (defScope st) .none kV doc pm an cdv ct) ⟨us, ks.zip ws⟩ = pure (ps.zip (g us ws))) : KBn K fd ps n ks g gV := by
  obtain ⟨oc, od, kV, doc, pm, an, cdv, ct, osl, rfl, lk, hcd⟩ := F.ex
  exact ⟨fun s us ws _ h1 h2 => .of_eq (h kV doc pm an cdv ct us ws h1 h2), hrel⟩
/-- a def with defaults, all arguments given -/
theorem FunD.kbn {qual : Str} {params : Arguments} {body : List Stmt} {scope : Scope} {dvs : List V} {kws : List (Str × V)} (F : FunD K x qual params body scope dvs kws f fd) (hd : dvs ≠ []) {g : List Value → List Value → List Value} {gV : List V → List V → List V} (hrel : ∀ {vs : List V} {us : List Value} {zs : List V} {ws : List Value}, Vals vs us → Vals zs ws → Vals (gV vs zs) (g us ws))
    (h : ∀ (T : Addr) (kV doc pm : Value) (an : Option Addr) (cdv ct : Value) (us ws its : List Value), us.length = n → ws.length = ks.length → its.length = dvs.length → ∃ k, bindArgs (PySem.W.fnOf x qual params body scope (.ref T) kV doc pm an cdv ct) ⟨us, ks.zip ws⟩ = seqItems? (.ref T) >>= k ∧ k (some its.toArray) = pure (ps.zip (g us ws))) : KBn K fd ps n ks g gV := by
  obtain ⟨oc, od, dV, kV, doc, pm, an, cdv, ct, osl, rfl, lk, hcd, hD, hK⟩ := F.ex
  rcases hD with ⟨e, _⟩ | ⟨_, T, o, its, m, rfl, lT, oT, rT⟩
  · exact absurd e hd
  · refine ⟨fun s us ws X h1 h2 => ?_, hrel⟩
    obtain ⟨k, e1, e2⟩ := h T kV doc pm an cdv ct us ws its h1 h2 rT.length.symm
    refine BindsTo.of_looks fun M => ?_
    rw [e1]
    exact looks_items X lT oT (.of_pure e2)
end
theorem all_mk {l : PySem.W.OpenLaw} {w : World} {K : PySem.W.Frag} {h : Heap} {mg : Str → Option Value} {fa f_is_whole f_shared_divisor f_lowest f_times f_divided f_two_to f_downward f_upward f_inward f_outward f_nearest_greater f_nearest_even f_nearest_far f_is_manner f_rounded T_rounded f_is_width f_is_point f_is_ends f__law_cell_at f__law_well f__law_draw f__law_value f__law_fraction f__law_refused f_law C f_Form_least f_Form_greatest f_Form_has f_Form_step f_Form_value f_Form_word_for f_Form_ended f_Form_kept f_Form___init__ T_Form___init__ A_ENDS A_MANNERS CE CN CT T_CU CU fI_CU cc_CU cda_CU : Addr} (X : K.In h) (G : h.Ns mainGlobals mg) (hfa : mg "law" = some (.ref fa))
    {od_is_whole an_is_whole : Option Addr} {sl_is_whole : Array (Option Value)} {oc_is_whole kV_is_whole dc_is_whole pm_is_whole cd_is_whole ct_is_whole : Value}
    (a_is_whole : PySem.W.nsIn K mainGlobals "is_whole" = some (some (.ref f_is_whole)))
    (l_is_whole : K.lookup f_is_whole = some ⟨oc_is_whole, od_is_whole, .func (PySem.W.fnOf "is_whole" "is_whole" (defArgs s_is_whole) (defBody s_is_whole) (defScope s_is_whole) .none kV_is_whole dc_is_whole pm_is_whole an_is_whole cd_is_whole ct_is_whole), sl_is_whole⟩)
    (c_is_whole : PySem.W.codeIn K cd_is_whole "is_whole" = true)
    (k_is_whole : PySem.W.keepIn K (.ref f_is_whole) = true)
    {od_shared_divisor an_shared_divisor : Option Addr} {sl_shared_divisor : Array (Option Value)} {oc_shared_divisor kV_shared_divisor dc_shared_divisor pm_shared_divisor cd_shared_divisor ct_shared_divisor : Value}
    (a_shared_divisor : PySem.W.nsIn K mainGlobals "shared_divisor" = some (some (.ref f_shared_divisor)))
    (l_shared_divisor : K.lookup f_shared_divisor = some ⟨oc_shared_divisor, od_shared_divisor, .func (PySem.W.fnOf "shared_divisor" "shared_divisor" (defArgs s_shared_divisor) (defBody s_shared_divisor) (defScope s_shared_divisor) .none kV_shared_divisor dc_shared_divisor pm_shared_divisor an_shared_divisor cd_shared_divisor ct_shared_divisor), sl_shared_divisor⟩)
    (c_shared_divisor : PySem.W.codeIn K cd_shared_divisor "shared_divisor" = true)
    (k_shared_divisor : PySem.W.keepIn K (.ref f_shared_divisor) = true)
    {od_lowest an_lowest : Option Addr} {sl_lowest : Array (Option Value)} {oc_lowest kV_lowest dc_lowest pm_lowest cd_lowest ct_lowest : Value}
    (a_lowest : PySem.W.nsIn K mainGlobals "lowest" = some (some (.ref f_lowest)))
    (l_lowest : K.lookup f_lowest = some ⟨oc_lowest, od_lowest, .func (PySem.W.fnOf "lowest" "lowest" (defArgs s_lowest) (defBody s_lowest) (defScope s_lowest) .none kV_lowest dc_lowest pm_lowest an_lowest cd_lowest ct_lowest), sl_lowest⟩)
    (c_lowest : PySem.W.codeIn K cd_lowest "lowest" = true)
    (k_lowest : PySem.W.keepIn K (.ref f_lowest) = true)
    {od_times an_times : Option Addr} {sl_times : Array (Option Value)} {oc_times kV_times dc_times pm_times cd_times ct_times : Value}
    (a_times : PySem.W.nsIn K mainGlobals "times" = some (some (.ref f_times)))
    (l_times : K.lookup f_times = some ⟨oc_times, od_times, .func (PySem.W.fnOf "times" "times" (defArgs s_times) (defBody s_times) (defScope s_times) .none kV_times dc_times pm_times an_times cd_times ct_times), sl_times⟩)
    (c_times : PySem.W.codeIn K cd_times "times" = true)
    (k_times : PySem.W.keepIn K (.ref f_times) = true)
    {od_divided an_divided : Option Addr} {sl_divided : Array (Option Value)} {oc_divided kV_divided dc_divided pm_divided cd_divided ct_divided : Value}
    (a_divided : PySem.W.nsIn K mainGlobals "divided" = some (some (.ref f_divided)))
    (l_divided : K.lookup f_divided = some ⟨oc_divided, od_divided, .func (PySem.W.fnOf "divided" "divided" (defArgs s_divided) (defBody s_divided) (defScope s_divided) .none kV_divided dc_divided pm_divided an_divided cd_divided ct_divided), sl_divided⟩)
    (c_divided : PySem.W.codeIn K cd_divided "divided" = true)
    (k_divided : PySem.W.keepIn K (.ref f_divided) = true)
    {od_two_to an_two_to : Option Addr} {sl_two_to : Array (Option Value)} {oc_two_to kV_two_to dc_two_to pm_two_to cd_two_to ct_two_to : Value}
    (a_two_to : PySem.W.nsIn K mainGlobals "two_to" = some (some (.ref f_two_to)))
    (l_two_to : K.lookup f_two_to = some ⟨oc_two_to, od_two_to, .func (PySem.W.fnOf "two_to" "two_to" (defArgs s_two_to) (defBody s_two_to) (defScope s_two_to) .none kV_two_to dc_two_to pm_two_to an_two_to cd_two_to ct_two_to), sl_two_to⟩)
    (c_two_to : PySem.W.codeIn K cd_two_to "two_to" = true)
    (k_two_to : PySem.W.keepIn K (.ref f_two_to) = true)
    {od_downward an_downward : Option Addr} {sl_downward : Array (Option Value)} {oc_downward kV_downward dc_downward pm_downward cd_downward ct_downward : Value}
    (a_downward : PySem.W.nsIn K mainGlobals "downward" = some (some (.ref f_downward)))
    (l_downward : K.lookup f_downward = some ⟨oc_downward, od_downward, .func (PySem.W.fnOf "downward" "downward" (defArgs s_downward) (defBody s_downward) (defScope s_downward) .none kV_downward dc_downward pm_downward an_downward cd_downward ct_downward), sl_downward⟩)
    (c_downward : PySem.W.codeIn K cd_downward "downward" = true)
    (k_downward : PySem.W.keepIn K (.ref f_downward) = true)
    {od_upward an_upward : Option Addr} {sl_upward : Array (Option Value)} {oc_upward kV_upward dc_upward pm_upward cd_upward ct_upward : Value}
    (a_upward : PySem.W.nsIn K mainGlobals "upward" = some (some (.ref f_upward)))
    (l_upward : K.lookup f_upward = some ⟨oc_upward, od_upward, .func (PySem.W.fnOf "upward" "upward" (defArgs s_upward) (defBody s_upward) (defScope s_upward) .none kV_upward dc_upward pm_upward an_upward cd_upward ct_upward), sl_upward⟩)
    (c_upward : PySem.W.codeIn K cd_upward "upward" = true)
    (k_upward : PySem.W.keepIn K (.ref f_upward) = true)
    {od_inward an_inward : Option Addr} {sl_inward : Array (Option Value)} {oc_inward kV_inward dc_inward pm_inward cd_inward ct_inward : Value}
    (a_inward : PySem.W.nsIn K mainGlobals "inward" = some (some (.ref f_inward)))
    (l_inward : K.lookup f_inward = some ⟨oc_inward, od_inward, .func (PySem.W.fnOf "inward" "inward" (defArgs s_inward) (defBody s_inward) (defScope s_inward) .none kV_inward dc_inward pm_inward an_inward cd_inward ct_inward), sl_inward⟩)
    (c_inward : PySem.W.codeIn K cd_inward "inward" = true)
    (k_inward : PySem.W.keepIn K (.ref f_inward) = true)
    {od_outward an_outward : Option Addr} {sl_outward : Array (Option Value)} {oc_outward kV_outward dc_outward pm_outward cd_outward ct_outward : Value}
    (a_outward : PySem.W.nsIn K mainGlobals "outward" = some (some (.ref f_outward)))
    (l_outward : K.lookup f_outward = some ⟨oc_outward, od_outward, .func (PySem.W.fnOf "outward" "outward" (defArgs s_outward) (defBody s_outward) (defScope s_outward) .none kV_outward dc_outward pm_outward an_outward cd_outward ct_outward), sl_outward⟩)
    (c_outward : PySem.W.codeIn K cd_outward "outward" = true)
    (k_outward : PySem.W.keepIn K (.ref f_outward) = true)
    {od_nearest_greater an_nearest_greater : Option Addr} {sl_nearest_greater : Array (Option Value)} {oc_nearest_greater kV_nearest_greater dc_nearest_greater pm_nearest_greater cd_nearest_greater ct_nearest_greater : Value}
    (a_nearest_greater : PySem.W.nsIn K mainGlobals "nearest_greater" = some (some (.ref f_nearest_greater)))
    (l_nearest_greater : K.lookup f_nearest_greater = some ⟨oc_nearest_greater, od_nearest_greater, .func (PySem.W.fnOf "nearest_greater" "nearest_greater" (defArgs s_nearest_greater) (defBody s_nearest_greater) (defScope s_nearest_greater) .none kV_nearest_greater dc_nearest_greater pm_nearest_greater an_nearest_greater cd_nearest_greater ct_nearest_greater), sl_nearest_greater⟩)
    (c_nearest_greater : PySem.W.codeIn K cd_nearest_greater "nearest_greater" = true)
    (k_nearest_greater : PySem.W.keepIn K (.ref f_nearest_greater) = true)
    {od_nearest_even an_nearest_even : Option Addr} {sl_nearest_even : Array (Option Value)} {oc_nearest_even kV_nearest_even dc_nearest_even pm_nearest_even cd_nearest_even ct_nearest_even : Value}
    (a_nearest_even : PySem.W.nsIn K mainGlobals "nearest_even" = some (some (.ref f_nearest_even)))
    (l_nearest_even : K.lookup f_nearest_even = some ⟨oc_nearest_even, od_nearest_even, .func (PySem.W.fnOf "nearest_even" "nearest_even" (defArgs s_nearest_even) (defBody s_nearest_even) (defScope s_nearest_even) .none kV_nearest_even dc_nearest_even pm_nearest_even an_nearest_even cd_nearest_even ct_nearest_even), sl_nearest_even⟩)
    (c_nearest_even : PySem.W.codeIn K cd_nearest_even "nearest_even" = true)
    (k_nearest_even : PySem.W.keepIn K (.ref f_nearest_even) = true)
    {od_nearest_far an_nearest_far : Option Addr} {sl_nearest_far : Array (Option Value)} {oc_nearest_far kV_nearest_far dc_nearest_far pm_nearest_far cd_nearest_far ct_nearest_far : Value}
    (a_nearest_far : PySem.W.nsIn K mainGlobals "nearest_far" = some (some (.ref f_nearest_far)))
    (l_nearest_far : K.lookup f_nearest_far = some ⟨oc_nearest_far, od_nearest_far, .func (PySem.W.fnOf "nearest_far" "nearest_far" (defArgs s_nearest_far) (defBody s_nearest_far) (defScope s_nearest_far) .none kV_nearest_far dc_nearest_far pm_nearest_far an_nearest_far cd_nearest_far ct_nearest_far), sl_nearest_far⟩)
    (c_nearest_far : PySem.W.codeIn K cd_nearest_far "nearest_far" = true)
    (k_nearest_far : PySem.W.keepIn K (.ref f_nearest_far) = true)
    {od_is_manner an_is_manner : Option Addr} {sl_is_manner : Array (Option Value)} {oc_is_manner kV_is_manner dc_is_manner pm_is_manner cd_is_manner ct_is_manner : Value}
    (a_is_manner : PySem.W.nsIn K mainGlobals "is_manner" = some (some (.ref f_is_manner)))
    (l_is_manner : K.lookup f_is_manner = some ⟨oc_is_manner, od_is_manner, .func (PySem.W.fnOf "is_manner" "is_manner" (defArgs s_is_manner) (defBody s_is_manner) (defScope s_is_manner) .none kV_is_manner dc_is_manner pm_is_manner an_is_manner cd_is_manner ct_is_manner), sl_is_manner⟩)
    (c_is_manner : PySem.W.codeIn K cd_is_manner "is_manner" = true)
    (k_is_manner : PySem.W.keepIn K (.ref f_is_manner) = true)
    {od_rounded an_rounded : Option Addr} {sl_rounded : Array (Option Value)} {oc_rounded kV_rounded dc_rounded pm_rounded cd_rounded ct_rounded : Value}
    {to_rounded : Value} {td_rounded : Option Addr} {tn_rounded : Nat} {ts_rounded : Array (Option Value)} {tk_rounded_0 : Tok}
    (a_rounded : PySem.W.nsIn K mainGlobals "rounded" = some (some (.ref f_rounded)))
    (l_rounded : K.lookup f_rounded = some ⟨oc_rounded, od_rounded, .func (PySem.W.fnOf "rounded" "rounded" (defArgs s_rounded) (defBody s_rounded) (defScope s_rounded) (.ref T_rounded) kV_rounded dc_rounded pm_rounded an_rounded cd_rounded ct_rounded), sl_rounded⟩)
    (c_rounded : PySem.W.codeIn K cd_rounded "rounded" = true)
    (k_rounded : PySem.W.keepIn K (.ref f_rounded) = true)
    (t_rounded : K.lookup T_rounded = some ⟨to_rounded, td_rounded, .seq [Value.str "half" tk_rounded_0].toArray tn_rounded, ts_rounded⟩)
    {od_is_width an_is_width : Option Addr} {sl_is_width : Array (Option Value)} {oc_is_width kV_is_width dc_is_width pm_is_width cd_is_width ct_is_width : Value}
    (a_is_width : PySem.W.nsIn K mainGlobals "is_width" = some (some (.ref f_is_width)))
    (l_is_width : K.lookup f_is_width = some ⟨oc_is_width, od_is_width, .func (PySem.W.fnOf "is_width" "is_width" (defArgs s_is_width) (defBody s_is_width) (defScope s_is_width) .none kV_is_width dc_is_width pm_is_width an_is_width cd_is_width ct_is_width), sl_is_width⟩)
    (c_is_width : PySem.W.codeIn K cd_is_width "is_width" = true)
    (k_is_width : PySem.W.keepIn K (.ref f_is_width) = true)
    {od_is_point an_is_point : Option Addr} {sl_is_point : Array (Option Value)} {oc_is_point kV_is_point dc_is_point pm_is_point cd_is_point ct_is_point : Value}
    (a_is_point : PySem.W.nsIn K mainGlobals "is_point" = some (some (.ref f_is_point)))
    (l_is_point : K.lookup f_is_point = some ⟨oc_is_point, od_is_point, .func (PySem.W.fnOf "is_point" "is_point" (defArgs s_is_point) (defBody s_is_point) (defScope s_is_point) .none kV_is_point dc_is_point pm_is_point an_is_point cd_is_point ct_is_point), sl_is_point⟩)
    (c_is_point : PySem.W.codeIn K cd_is_point "is_point" = true)
    (k_is_point : PySem.W.keepIn K (.ref f_is_point) = true)
    {od_is_ends an_is_ends : Option Addr} {sl_is_ends : Array (Option Value)} {oc_is_ends kV_is_ends dc_is_ends pm_is_ends cd_is_ends ct_is_ends : Value}
    (a_is_ends : PySem.W.nsIn K mainGlobals "is_ends" = some (some (.ref f_is_ends)))
    (l_is_ends : K.lookup f_is_ends = some ⟨oc_is_ends, od_is_ends, .func (PySem.W.fnOf "is_ends" "is_ends" (defArgs s_is_ends) (defBody s_is_ends) (defScope s_is_ends) .none kV_is_ends dc_is_ends pm_is_ends an_is_ends cd_is_ends ct_is_ends), sl_is_ends⟩)
    (c_is_ends : PySem.W.codeIn K cd_is_ends "is_ends" = true)
    (k_is_ends : PySem.W.keepIn K (.ref f_is_ends) = true)
    {od__law_cell_at an__law_cell_at : Option Addr} {sl__law_cell_at : Array (Option Value)} {oc__law_cell_at kV__law_cell_at dc__law_cell_at pm__law_cell_at cd__law_cell_at ct__law_cell_at : Value}
    (a__law_cell_at : PySem.W.nsIn K mainGlobals "_law_cell_at" = some (some (.ref f__law_cell_at)))
    (l__law_cell_at : K.lookup f__law_cell_at = some ⟨oc__law_cell_at, od__law_cell_at, .func (PySem.W.fnOf "_law_cell_at" "_law_cell_at" (defArgs s__law_cell_at) (defBody s__law_cell_at) (defScope s__law_cell_at) .none kV__law_cell_at dc__law_cell_at pm__law_cell_at an__law_cell_at cd__law_cell_at ct__law_cell_at), sl__law_cell_at⟩)
    (c__law_cell_at : PySem.W.codeIn K cd__law_cell_at "_law_cell_at" = true)
    (k__law_cell_at : PySem.W.keepIn K (.ref f__law_cell_at) = true)
    {od__law_well an__law_well : Option Addr} {sl__law_well : Array (Option Value)} {oc__law_well kV__law_well dc__law_well pm__law_well cd__law_well ct__law_well : Value}
    (a__law_well : PySem.W.nsIn K mainGlobals "_law_well" = some (some (.ref f__law_well)))
    (l__law_well : K.lookup f__law_well = some ⟨oc__law_well, od__law_well, .func (PySem.W.fnOf "_law_well" "_law_well" (defArgs s__law_well) (defBody s__law_well) (defScope s__law_well) .none kV__law_well dc__law_well pm__law_well an__law_well cd__law_well ct__law_well), sl__law_well⟩)
    (c__law_well : PySem.W.codeIn K cd__law_well "_law_well" = true)
    (k__law_well : PySem.W.keepIn K (.ref f__law_well) = true)
    {od__law_draw an__law_draw : Option Addr} {sl__law_draw : Array (Option Value)} {oc__law_draw kV__law_draw dc__law_draw pm__law_draw cd__law_draw ct__law_draw : Value}
    (a__law_draw : PySem.W.nsIn K mainGlobals "_law_draw" = some (some (.ref f__law_draw)))
    (l__law_draw : K.lookup f__law_draw = some ⟨oc__law_draw, od__law_draw, .func (PySem.W.fnOf "_law_draw" "_law_draw" (defArgs s__law_draw) (defBody s__law_draw) (defScope s__law_draw) .none kV__law_draw dc__law_draw pm__law_draw an__law_draw cd__law_draw ct__law_draw), sl__law_draw⟩)
    (c__law_draw : PySem.W.codeIn K cd__law_draw "_law_draw" = true)
    (k__law_draw : PySem.W.keepIn K (.ref f__law_draw) = true)
    {od__law_value an__law_value : Option Addr} {sl__law_value : Array (Option Value)} {oc__law_value kV__law_value dc__law_value pm__law_value cd__law_value ct__law_value : Value}
    (a__law_value : PySem.W.nsIn K mainGlobals "_law_value" = some (some (.ref f__law_value)))
    (l__law_value : K.lookup f__law_value = some ⟨oc__law_value, od__law_value, .func (PySem.W.fnOf "_law_value" "_law_value" (defArgs s__law_value) (defBody s__law_value) (defScope s__law_value) .none kV__law_value dc__law_value pm__law_value an__law_value cd__law_value ct__law_value), sl__law_value⟩)
    (c__law_value : PySem.W.codeIn K cd__law_value "_law_value" = true)
    (k__law_value : PySem.W.keepIn K (.ref f__law_value) = true)
    {od__law_fraction an__law_fraction : Option Addr} {sl__law_fraction : Array (Option Value)} {oc__law_fraction kV__law_fraction dc__law_fraction pm__law_fraction cd__law_fraction ct__law_fraction : Value}
    (a__law_fraction : PySem.W.nsIn K mainGlobals "_law_fraction" = some (some (.ref f__law_fraction)))
    (l__law_fraction : K.lookup f__law_fraction = some ⟨oc__law_fraction, od__law_fraction, .func (PySem.W.fnOf "_law_fraction" "_law_fraction" (defArgs s__law_fraction) (defBody s__law_fraction) (defScope s__law_fraction) .none kV__law_fraction dc__law_fraction pm__law_fraction an__law_fraction cd__law_fraction ct__law_fraction), sl__law_fraction⟩)
    (c__law_fraction : PySem.W.codeIn K cd__law_fraction "_law_fraction" = true)
    (k__law_fraction : PySem.W.keepIn K (.ref f__law_fraction) = true)
    {od__law_refused an__law_refused : Option Addr} {sl__law_refused : Array (Option Value)} {oc__law_refused kV__law_refused dc__law_refused pm__law_refused cd__law_refused ct__law_refused : Value}
    (a__law_refused : PySem.W.nsIn K mainGlobals "_law_refused" = some (some (.ref f__law_refused)))
    (l__law_refused : K.lookup f__law_refused = some ⟨oc__law_refused, od__law_refused, .func (PySem.W.fnOf "_law_refused" "_law_refused" (defArgs s__law_refused) (defBody s__law_refused) (defScope s__law_refused) .none kV__law_refused dc__law_refused pm__law_refused an__law_refused cd__law_refused ct__law_refused), sl__law_refused⟩)
    (c__law_refused : PySem.W.codeIn K cd__law_refused "_law_refused" = true)
    (k__law_refused : PySem.W.keepIn K (.ref f__law_refused) = true)
    {od_law an_law : Option Addr} {sl_law : Array (Option Value)} {oc_law kV_law dc_law pm_law cd_law ct_law : Value}
    (a_law : PySem.W.nsIn K mainGlobals "law" = some (some (.ref f_law)))
    (l_law : K.lookup f_law = some ⟨oc_law, od_law, .func (PySem.W.fnOf "law" "law" (defArgs s_law) (defBody s_law) (defScope s_law) .none kV_law dc_law pm_law an_law cd_law ct_law), sl_law⟩)
    (c_law : PySem.W.codeIn K cd_law "law" = true)
    (k_law : PySem.W.keepIn K (.ref f_law) = true)
    (aC_C : PySem.W.nsIn K mainGlobals "Form" = some (some (.ref C)))
    (pg_C : PySem.W.plainGet K C Str.empty = true)
    (hd_C : PySem.W.hasDictIn K C = true)
    (po_C : PySem.W.plainOver K C = true)
    (sa_C : PySem.W.findIn K (.ref C) "__setattr__" = some (some (.builtin "object.__setattr__")))
    (mk_C : PySem.W.makesIn K C = true)
    (kc_C : PySem.W.keepIn K (.ref C) = true)
    (n_C_width : PySem.W.findIn K (.ref C) "width" = some none)
    (n_C_point : PySem.W.findIn K (.ref C) "point" = some none)
    (n_C_manner : PySem.W.findIn K (.ref C) "manner" = some none)
    (n_C_ends : PySem.W.findIn K (.ref C) "ends" = some none)
    {od_Form_least an_Form_least : Option Addr} {sl_Form_least : Array (Option Value)} {oc_Form_least kV_Form_least dc_Form_least pm_Form_least cd_Form_least ct_Form_least : Value}
    (a_Form_least : PySem.W.findIn K (.ref C) "least" = some (some (.ref f_Form_least)))
    (i_Form_least : PySem.W.isFn K (.ref f_Form_least) = true)
    (l_Form_least : K.lookup f_Form_least = some ⟨oc_Form_least, od_Form_least, .func (PySem.W.fnOf "least" "Form.least" (defArgs s_Form_least) (defBody s_Form_least) (defScope s_Form_least) .none kV_Form_least dc_Form_least pm_Form_least an_Form_least cd_Form_least ct_Form_least), sl_Form_least⟩)
    (c_Form_least : PySem.W.codeIn K cd_Form_least "Form.least" = true)
    (k_Form_least : PySem.W.keepIn K (.ref f_Form_least) = true)
    {od_Form_greatest an_Form_greatest : Option Addr} {sl_Form_greatest : Array (Option Value)} {oc_Form_greatest kV_Form_greatest dc_Form_greatest pm_Form_greatest cd_Form_greatest ct_Form_greatest : Value}
    (a_Form_greatest : PySem.W.findIn K (.ref C) "greatest" = some (some (.ref f_Form_greatest)))
    (i_Form_greatest : PySem.W.isFn K (.ref f_Form_greatest) = true)
    (l_Form_greatest : K.lookup f_Form_greatest = some ⟨oc_Form_greatest, od_Form_greatest, .func (PySem.W.fnOf "greatest" "Form.greatest" (defArgs s_Form_greatest) (defBody s_Form_greatest) (defScope s_Form_greatest) .none kV_Form_greatest dc_Form_greatest pm_Form_greatest an_Form_greatest cd_Form_greatest ct_Form_greatest), sl_Form_greatest⟩)
    (c_Form_greatest : PySem.W.codeIn K cd_Form_greatest "Form.greatest" = true)
    (k_Form_greatest : PySem.W.keepIn K (.ref f_Form_greatest) = true)
    {od_Form_has an_Form_has : Option Addr} {sl_Form_has : Array (Option Value)} {oc_Form_has kV_Form_has dc_Form_has pm_Form_has cd_Form_has ct_Form_has : Value}
    (a_Form_has : PySem.W.findIn K (.ref C) "has" = some (some (.ref f_Form_has)))
    (i_Form_has : PySem.W.isFn K (.ref f_Form_has) = true)
    (l_Form_has : K.lookup f_Form_has = some ⟨oc_Form_has, od_Form_has, .func (PySem.W.fnOf "has" "Form.has" (defArgs s_Form_has) (defBody s_Form_has) (defScope s_Form_has) .none kV_Form_has dc_Form_has pm_Form_has an_Form_has cd_Form_has ct_Form_has), sl_Form_has⟩)
    (c_Form_has : PySem.W.codeIn K cd_Form_has "Form.has" = true)
    (k_Form_has : PySem.W.keepIn K (.ref f_Form_has) = true)
    {od_Form_step an_Form_step : Option Addr} {sl_Form_step : Array (Option Value)} {oc_Form_step kV_Form_step dc_Form_step pm_Form_step cd_Form_step ct_Form_step : Value}
    (a_Form_step : PySem.W.findIn K (.ref C) "step" = some (some (.ref f_Form_step)))
    (i_Form_step : PySem.W.isFn K (.ref f_Form_step) = true)
    (l_Form_step : K.lookup f_Form_step = some ⟨oc_Form_step, od_Form_step, .func (PySem.W.fnOf "step" "Form.step" (defArgs s_Form_step) (defBody s_Form_step) (defScope s_Form_step) .none kV_Form_step dc_Form_step pm_Form_step an_Form_step cd_Form_step ct_Form_step), sl_Form_step⟩)
    (c_Form_step : PySem.W.codeIn K cd_Form_step "Form.step" = true)
    (k_Form_step : PySem.W.keepIn K (.ref f_Form_step) = true)
    {od_Form_value an_Form_value : Option Addr} {sl_Form_value : Array (Option Value)} {oc_Form_value kV_Form_value dc_Form_value pm_Form_value cd_Form_value ct_Form_value : Value}
    (a_Form_value : PySem.W.findIn K (.ref C) "value" = some (some (.ref f_Form_value)))
    (i_Form_value : PySem.W.isFn K (.ref f_Form_value) = true)
    (l_Form_value : K.lookup f_Form_value = some ⟨oc_Form_value, od_Form_value, .func (PySem.W.fnOf "value" "Form.value" (defArgs s_Form_value) (defBody s_Form_value) (defScope s_Form_value) .none kV_Form_value dc_Form_value pm_Form_value an_Form_value cd_Form_value ct_Form_value), sl_Form_value⟩)
    (c_Form_value : PySem.W.codeIn K cd_Form_value "Form.value" = true)
    (k_Form_value : PySem.W.keepIn K (.ref f_Form_value) = true)
    {od_Form_word_for an_Form_word_for : Option Addr} {sl_Form_word_for : Array (Option Value)} {oc_Form_word_for kV_Form_word_for dc_Form_word_for pm_Form_word_for cd_Form_word_for ct_Form_word_for : Value}
    (a_Form_word_for : PySem.W.findIn K (.ref C) "word_for" = some (some (.ref f_Form_word_for)))
    (i_Form_word_for : PySem.W.isFn K (.ref f_Form_word_for) = true)
    (l_Form_word_for : K.lookup f_Form_word_for = some ⟨oc_Form_word_for, od_Form_word_for, .func (PySem.W.fnOf "word_for" "Form.word_for" (defArgs s_Form_word_for) (defBody s_Form_word_for) (defScope s_Form_word_for) .none kV_Form_word_for dc_Form_word_for pm_Form_word_for an_Form_word_for cd_Form_word_for ct_Form_word_for), sl_Form_word_for⟩)
    (c_Form_word_for : PySem.W.codeIn K cd_Form_word_for "Form.word_for" = true)
    (k_Form_word_for : PySem.W.keepIn K (.ref f_Form_word_for) = true)
    {od_Form_ended an_Form_ended : Option Addr} {sl_Form_ended : Array (Option Value)} {oc_Form_ended kV_Form_ended dc_Form_ended pm_Form_ended cd_Form_ended ct_Form_ended : Value}
    (a_Form_ended : PySem.W.findIn K (.ref C) "ended" = some (some (.ref f_Form_ended)))
    (i_Form_ended : PySem.W.isFn K (.ref f_Form_ended) = true)
    (l_Form_ended : K.lookup f_Form_ended = some ⟨oc_Form_ended, od_Form_ended, .func (PySem.W.fnOf "ended" "Form.ended" (defArgs s_Form_ended) (defBody s_Form_ended) (defScope s_Form_ended) .none kV_Form_ended dc_Form_ended pm_Form_ended an_Form_ended cd_Form_ended ct_Form_ended), sl_Form_ended⟩)
    (c_Form_ended : PySem.W.codeIn K cd_Form_ended "Form.ended" = true)
    (k_Form_ended : PySem.W.keepIn K (.ref f_Form_ended) = true)
    {od_Form_kept an_Form_kept : Option Addr} {sl_Form_kept : Array (Option Value)} {oc_Form_kept kV_Form_kept dc_Form_kept pm_Form_kept cd_Form_kept ct_Form_kept : Value}
    (a_Form_kept : PySem.W.findIn K (.ref C) "kept" = some (some (.ref f_Form_kept)))
    (i_Form_kept : PySem.W.isFn K (.ref f_Form_kept) = true)
    (l_Form_kept : K.lookup f_Form_kept = some ⟨oc_Form_kept, od_Form_kept, .func (PySem.W.fnOf "kept" "Form.kept" (defArgs s_Form_kept) (defBody s_Form_kept) (defScope s_Form_kept) .none kV_Form_kept dc_Form_kept pm_Form_kept an_Form_kept cd_Form_kept ct_Form_kept), sl_Form_kept⟩)
    (c_Form_kept : PySem.W.codeIn K cd_Form_kept "Form.kept" = true)
    (k_Form_kept : PySem.W.keepIn K (.ref f_Form_kept) = true)
    {od_Form___init__ an_Form___init__ : Option Addr} {sl_Form___init__ : Array (Option Value)} {oc_Form___init__ kV_Form___init__ dc_Form___init__ pm_Form___init__ cd_Form___init__ ct_Form___init__ : Value}
    {to_Form___init__ : Value} {td_Form___init__ : Option Addr} {tn_Form___init__ : Nat} {ts_Form___init__ : Array (Option Value)} {tk_Form___init___1 : Tok} {tk_Form___init___2 : Tok} {tk_Form___init___3 : Tok}
    (a_Form___init__ : PySem.W.findIn K (.ref C) "__init__" = some (some (.ref f_Form___init__)))
    (i_Form___init__ : PySem.W.isFn K (.ref f_Form___init__) = true)
    (l_Form___init__ : K.lookup f_Form___init__ = some ⟨oc_Form___init__, od_Form___init__, .func (PySem.W.fnOf "__init__" "Form.__init__" (defArgs s_Form___init__) (defBody s_Form___init__) (defScope s_Form___init__) (.ref T_Form___init__) kV_Form___init__ dc_Form___init__ pm_Form___init__ an_Form___init__ cd_Form___init__ ct_Form___init__), sl_Form___init__⟩)
    (c_Form___init__ : PySem.W.codeIn K cd_Form___init__ "Form.__init__" = true)
    (k_Form___init__ : PySem.W.keepIn K (.ref f_Form___init__) = true)
    (t_Form___init__ : K.lookup T_Form___init__ = some ⟨to_Form___init__, td_Form___init__, .seq [Value.none, Value.int 0 tk_Form___init___1, Value.str "half" tk_Form___init___2, Value.str "wrap" tk_Form___init___3].toArray tn_Form___init__, ts_Form___init__⟩)
    {tk_GREATEST_POWER : Tok}
    (g_GREATEST_POWER : PySem.W.nsIn K mainGlobals "GREATEST_POWER" = some (some (.int 400 tk_GREATEST_POWER)))
    {tk_LEAST_WIDTH : Tok}
    (g_LEAST_WIDTH : PySem.W.nsIn K mainGlobals "LEAST_WIDTH" = some (some (.int 2 tk_LEAST_WIDTH)))
    {tk_GREATEST_WIDTH : Tok}
    (g_GREATEST_WIDTH : PySem.W.nsIn K mainGlobals "GREATEST_WIDTH" = some (some (.int 64 tk_GREATEST_WIDTH)))
    {tk_GREATEST_POINT : Tok}
    (g_GREATEST_POINT : PySem.W.nsIn K mainGlobals "GREATEST_POINT" = some (some (.int 64 tk_GREATEST_POINT)))
    {tt_ENDS : Option Addr} {tn_ENDS : Nat} {ts_ENDS : Array (Option Value)} {tk_ENDS_0 : Tok} {tk_ENDS_1 : Tok}
    (g_ENDS : PySem.W.nsIn K mainGlobals "ENDS" = some (some (.ref A_ENDS)))
    (t_ENDS : K.lookup A_ENDS = some ⟨.type "tuple", tt_ENDS, .seq [Value.str "wrap" tk_ENDS_0, Value.str "stop" tk_ENDS_1].toArray tn_ENDS, ts_ENDS⟩)
    {es_MANNERS : Array DictEntry} {dn_MANNERS : Nat}
    (g_MANNERS : PySem.W.nsIn K mainGlobals "MANNERS" = some (some (.ref A_MANNERS)))
    (t_MANNERS : K.lookup A_MANNERS = some ⟨.type "dict", none, .dict es_MANNERS dn_MANNERS, #[]⟩)
    (y_MANNERS : PySem.W.KeysLit w.params es_MANNERS.toList)
    (w_MANNERS : (A_MANNERS == sysModules) = false)
    (d_MANNERS_down : PySem.W.nsIn K A_MANNERS "down" = some (some (.ref f_downward)))
    (d_MANNERS_up : PySem.W.nsIn K A_MANNERS "up" = some (some (.ref f_upward)))
    (d_MANNERS_in : PySem.W.nsIn K A_MANNERS "in" = some (some (.ref f_inward)))
    (d_MANNERS_out : PySem.W.nsIn K A_MANNERS "out" = some (some (.ref f_outward)))
    (d_MANNERS_half : PySem.W.nsIn K A_MANNERS "half" = some (some (.ref f_nearest_greater)))
    (d_MANNERS_even : PySem.W.nsIn K A_MANNERS "even" = some (some (.ref f_nearest_even)))
    (d_MANNERS_far : PySem.W.nsIn K A_MANNERS "far" = some (some (.ref f_nearest_far)))
    (aC_CE : PySem.W.nsIn K mainGlobals "EchoError" = some (some (.ref CE)))
    (aC_CN : PySem.W.nsIn K mainGlobals "NoFraction" = some (some (.ref CN)))
    (aC_CT : PySem.W.nsIn K mainGlobals "NoText" = some (some (.ref CT)))
    (aC_CU : PySem.W.nsIn K mainGlobals "Unfit" = some (some (.ref CU)))
    (ei_CU : PySem.W.excInitIn K CU PySem.ErrX.bmA "ArithmeticError.__new__" = true)
    (eo_CU : PySem.W.excOver K CU PySem.ErrX.bmA = true)
    (sa_CU : PySem.W.findIn K (.ref CU) "__setattr__" = some (some (.builtin "object.__setattr__")))
    (ga_CU : PySem.W.findIn K (.ref CU) "__getattribute__" = some (some (.builtin "BaseException.__getattribute__")))
    (gg_CU : PySem.W.findIn K (.ref CU) "__getattr__" = some none)
    (kC_CU : PySem.W.keepIn K (.ref CU) = true)
    (ex_CU : PySem.W.subIn K (.ref CU) (.type "BaseException") = some true)
    (ty_CU : PySem.W.typeIn K (.ref CU) = some (.type "type"))
    (hd_CU : PySem.W.hasDictIn K CU = true)
    (ha_CU : PySem.W.findIn K (.ref CU) "__class__" = some (some (.builtin "object.__class__")))
    (hn_CU : PySem.W.specialIn K (.builtin "object.__class__") "__get__" = some (some (.builtin "getset_descriptor.__get__")))
    (ht_CU : PySem.W.takesIn K (.builtin "object.__class__") = some true)
    (hm_CU : PySem.W.mroIn K CU (.type "object") = some true)
    (iC_CU : PySem.W.findIn K (.ref CU) "__init__" = some (some (.ref fI_CU)))
    (tC_CU : PySem.W.typeIn K (.ref fI_CU) = some (.type "function"))
    {od_CU an_CU cdd_CU cld_CU : Option Addr} {sl_CU ccs_CU csl_CU : Array (Option Value)} {oc_CU kV_CU dc_CU pm_CU ct_CU ccl_CU cl_CU : Value} {vs_CU : Array Value} {file_CU : Str} {tf_CU : Tok}
    (l_CU : K.lookup fI_CU = some ⟨oc_CU, od_CU, .func (PySem.W.ksFn "__init__" "Unfit.__init__" (defArgs s_Unfit___init__) (defBody s_Unfit___init__) (defScope s_Unfit___init__) (.ref T_CU) kV_CU dc_CU pm_CU an_CU (.ref cda_CU) ct_CU cc_CU), sl_CU⟩)
    (cd_CU : PySem.W.codeIn K (.ref cda_CU) "Unfit.__init__" = true)
    (lc_CU : K.lookup cda_CU = some ⟨ccl_CU, cdd_CU, .fields vs_CU, ccs_CU⟩)
    (v2_CU : vs_CU[2]? = some (.str file_CU tf_CU))
    (fl_CU : ((l.prog.main.file : Str) == file_CU) = true)
    (ce_CU : K.lookup cc_CU = some ⟨cl_CU, cld_CU, .cell (some (.ref CU)), csl_CU⟩)
    (nf_CU : PySem.W.findIn K (.ref CU) "at" = some none)
    (su_CU : PySem.W.ks_superIn K CU CU "__init__" = some (some (.builtin "ArithmeticError.__init__")))
    (sA_CU : PySem.W.subIn K (.ref CU) (.type "ArithmeticError") = some true)
    (sf_CU : PySem.W.mroIn K CU (.ref CU) = some true)
    (th_CU : PySem.W.nsIn K cStatics "thirdparty.any" = some none)
    (ms_CU : PySem.W.nsIn K mainGlobals "super" = some none)
    (tp_CU : (l.prog.main.scope.names.lookup ("super" : Str)).isSome = false)
    {to_CU : Value} {td_CU : Option Addr} {its_CU : Array Value} {tn_CU : Nat} {ts_CU : Array (Option Value)}
    (t_CU : K.lookup T_CU = some ⟨to_CU, td_CU, .seq its_CU tn_CU, ts_CU⟩)
    (z_CU : its_CU.size = 1)
    (xm : PySem.W.exmOne K (.ref CU) (.ref CE) = some true)
    (ki_U : PySem.W.kitOne K (.ref CU) (.ref CU) = some true)
    (ki_N : PySem.W.kitOne K (.ref CU) (.ref CN) = some false)
    (ki_T : PySem.W.kitOne K (.ref CU) (.ref CT) = some false)
    (z_isinstance : PySem.W.nsIn K mainGlobals "isinstance" = some none)
    (z_int : PySem.W.nsIn K mainGlobals "int" = some none)
    (z_bool : PySem.W.nsIn K mainGlobals "bool" = some none)
    (z_abs : PySem.W.nsIn K mainGlobals "abs" = some none)
    (z_str : PySem.W.nsIn K mainGlobals "str" = some none)
    (z_len : PySem.W.nsIn K mainGlobals "len" = some none)
    (z_range : PySem.W.nsIn K mainGlobals "range" = some none)
    (z_tuple : PySem.W.nsIn K mainGlobals "tuple" = some none)
    (z_all : PySem.W.nsIn K mainGlobals "all" = some none) :
    ∃ fd : FuncData, (∀ (s : Shared) (v : Value), BindsTo s fd ⟨[v], []⟩ [("_law_script", v)]) ∧ ∀ base : Heap, K.In base → base.Ns mainGlobals mg → FnOk l.prog w K mg base CX0 6 fa fd ["_law_script"] (spLaw K) := by
  have F_is_whole := fun_mk (st := s_is_whole) l_is_whole c_is_whole k_is_whole
  have b_is_whole := F_is_whole.binds (ps := ["thing"]) fun _ _ _ _ _ _ us hl => match us, hl with | [_], _ => rfl
  have F_shared_divisor := fun_mk (st := s_shared_divisor) l_shared_divisor c_shared_divisor k_shared_divisor
  have b_shared_divisor := F_shared_divisor.binds (ps := ["top", "bottom"]) fun _ _ _ _ _ _ us hl => match us, hl with | [_, _], _ => rfl
  have F_lowest := fun_mk (st := s_lowest) l_lowest c_lowest k_lowest
  have b_lowest := F_lowest.binds (ps := ["top", "bottom"]) fun _ _ _ _ _ _ us hl => match us, hl with | [_, _], _ => rfl
  have F_times := fun_mk (st := s_times) l_times c_times k_times
  have b_times := F_times.binds (ps := ["one", "other"]) fun _ _ _ _ _ _ us hl => match us, hl with | [_, _], _ => rfl
  have F_divided := fun_mk (st := s_divided) l_divided c_divided k_divided
  have b_divided := F_divided.binds (ps := ["one", "other"]) fun _ _ _ _ _ _ us hl => match us, hl with | [_, _], _ => rfl
  have F_two_to := fun_mk (st := s_two_to) l_two_to c_two_to k_two_to
  have b_two_to := F_two_to.binds (ps := ["many"]) fun _ _ _ _ _ _ us hl => match us, hl with | [_], _ => rfl
  have F_downward := fun_mk (st := s_downward) l_downward c_downward k_downward
  have b_downward := F_downward.binds (ps := ["top", "bottom"]) fun _ _ _ _ _ _ us hl => match us, hl with | [_, _], _ => rfl
  have F_upward := fun_mk (st := s_upward) l_upward c_upward k_upward
  have b_upward := F_upward.binds (ps := ["top", "bottom"]) fun _ _ _ _ _ _ us hl => match us, hl with | [_, _], _ => rfl
  have F_inward := fun_mk (st := s_inward) l_inward c_inward k_inward
  have b_inward := F_inward.binds (ps := ["top", "bottom"]) fun _ _ _ _ _ _ us hl => match us, hl with | [_, _], _ => rfl
  have F_outward := fun_mk (st := s_outward) l_outward c_outward k_outward
  have b_outward := F_outward.binds (ps := ["top", "bottom"]) fun _ _ _ _ _ _ us hl => match us, hl with | [_, _], _ => rfl
  have F_nearest_greater := fun_mk (st := s_nearest_greater) l_nearest_greater c_nearest_greater k_nearest_greater
  have b_nearest_greater := F_nearest_greater.binds (ps := ["top", "bottom"]) fun _ _ _ _ _ _ us hl => match us, hl with | [_, _], _ => rfl
  have F_nearest_even := fun_mk (st := s_nearest_even) l_nearest_even c_nearest_even k_nearest_even
  have b_nearest_even := F_nearest_even.binds (ps := ["top", "bottom"]) fun _ _ _ _ _ _ us hl => match us, hl with | [_, _], _ => rfl
  have F_nearest_far := fun_mk (st := s_nearest_far) l_nearest_far c_nearest_far k_nearest_far
  have b_nearest_far := F_nearest_far.binds (ps := ["top", "bottom"]) fun _ _ _ _ _ _ us hl => match us, hl with | [_, _], _ => rfl
  have F_is_manner := fun_mk (st := s_is_manner) l_is_manner c_is_manner k_is_manner
  have b_is_manner := F_is_manner.binds (ps := ["thing"]) fun _ _ _ _ _ _ us hl => match us, hl with | [_], _ => rfl
  have F_rounded : FunD K "rounded" "rounded" (defArgs s_rounded) (defBody s_rounded) (defScope s_rounded) [V.str "half"] [] f_rounded _ := ⟨⟨_, _, _, _, _, _, _, _, _, _, rfl, l_rounded, c_rounded, .inr ⟨by simp, T_rounded, _, [Value.str "half" tk_rounded_0], _, rfl, t_rounded, rfl, (.cons ⟨_, rfl⟩ .nil)⟩, .inl rfl⟩, k_rounded⟩
  obtain ⟨ds_rounded, dv_rounded, b_rounded⟩ := F_rounded.binds1 (ps := ["value", "manner"]) 2 1 (by simp) rfl fun _ _ _ _ _ _ _ us its h1 h2 => match us, its, h1, h2 with | [_, _], [_], _, _ => ⟨_, rfl, rfl⟩
  cases dv_rounded
  have F_is_width := fun_mk (st := s_is_width) l_is_width c_is_width k_is_width
  have b_is_width := F_is_width.binds (ps := ["thing"]) fun _ _ _ _ _ _ us hl => match us, hl with | [_], _ => rfl
  have F_is_point := fun_mk (st := s_is_point) l_is_point c_is_point k_is_point
  have b_is_point := F_is_point.binds (ps := ["thing"]) fun _ _ _ _ _ _ us hl => match us, hl with | [_], _ => rfl
  have F_is_ends := fun_mk (st := s_is_ends) l_is_ends c_is_ends k_is_ends
  have b_is_ends := F_is_ends.binds (ps := ["thing"]) fun _ _ _ _ _ _ us hl => match us, hl with | [_], _ => rfl
  have F__law_cell_at := fun_mk (st := s__law_cell_at) l__law_cell_at c__law_cell_at k__law_cell_at
  have b__law_cell_at := F__law_cell_at.binds (ps := ["_law_script", "_law_k"]) fun _ _ _ _ _ _ us hl => match us, hl with | [_, _], _ => rfl
  have F__law_well := fun_mk (st := s__law_well) l__law_well c__law_well k__law_well
  have b__law_well := F__law_well.binds (ps := ["_law_cell"]) fun _ _ _ _ _ _ us hl => match us, hl with | [_], _ => rfl
  have F__law_draw := fun_mk (st := s__law_draw) l__law_draw c__law_draw k__law_draw
  have b__law_draw := F__law_draw.binds (ps := ["_law_well_here", "_law_many"]) fun _ _ _ _ _ _ us hl => match us, hl with | [_, _], _ => rfl
  have F__law_value := fun_mk (st := s__law_value) l__law_value c__law_value k__law_value
  have b__law_value := F__law_value.binds (ps := ["_law_entry", "_law_point"]) fun _ _ _ _ _ _ us hl => match us, hl with | [_, _], _ => rfl
  have F__law_fraction := fun_mk (st := s__law_fraction) l__law_fraction c__law_fraction k__law_fraction
  have b__law_fraction := F__law_fraction.binds (ps := ["_law_found", "_law_due"]) fun _ _ _ _ _ _ us hl => match us, hl with | [_, _], _ => rfl
  have F__law_refused := fun_mk (st := s__law_refused) l__law_refused c__law_refused k__law_refused
  have b__law_refused := F__law_refused.binds (ps := ["_law_form", "_law_thing"]) fun _ _ _ _ _ _ us hl => match us, hl with | [_, _], _ => rfl
  have F_law := fun_mk (st := s_law) l_law c_law k_law
  have b_law := F_law.binds (ps := ["_law_script"]) fun _ _ _ _ _ _ us hl => match us, hl with | [_], _ => rfl
  have F_Form_least := fun_mk (st := s_Form_least) l_Form_least c_Form_least k_Form_least
  have b_Form_least := F_Form_least.binds (ps := ["self"]) fun _ _ _ _ _ _ us hl => match us, hl with | [_], _ => rfl
  have F_Form_greatest := fun_mk (st := s_Form_greatest) l_Form_greatest c_Form_greatest k_Form_greatest
  have b_Form_greatest := F_Form_greatest.binds (ps := ["self"]) fun _ _ _ _ _ _ us hl => match us, hl with | [_], _ => rfl
  have F_Form_has := fun_mk (st := s_Form_has) l_Form_has c_Form_has k_Form_has
  have b_Form_has := F_Form_has.binds (ps := ["self", "thing"]) fun _ _ _ _ _ _ us hl => match us, hl with | [_, _], _ => rfl
  have F_Form_step := fun_mk (st := s_Form_step) l_Form_step c_Form_step k_Form_step
  have b_Form_step := F_Form_step.binds (ps := ["self"]) fun _ _ _ _ _ _ us hl => match us, hl with | [_], _ => rfl
  have F_Form_value := fun_mk (st := s_Form_value) l_Form_value c_Form_value k_Form_value
  have b_Form_value := F_Form_value.binds (ps := ["self", "word"]) fun _ _ _ _ _ _ us hl => match us, hl with | [_, _], _ => rfl
  have F_Form_word_for := fun_mk (st := s_Form_word_for) l_Form_word_for c_Form_word_for k_Form_word_for
  have F_Form_ended := fun_mk (st := s_Form_ended) l_Form_ended c_Form_ended k_Form_ended
  have b_Form_word_for := F_Form_word_for.binds (ps := ["self", "number"]) fun _ _ _ _ _ _ us hl => match us, hl with | [_, _], _ => rfl
  have b_Form_ended := F_Form_ended.binds (ps := ["self", "number"]) fun _ _ _ _ _ _ us hl => match us, hl with | [_, _], _ => rfl
  have F_Form_kept := fun_mk (st := s_Form_kept) l_Form_kept c_Form_kept k_Form_kept
  have b_Form_kept := F_Form_kept.binds (ps := ["self", "value"]) fun _ _ _ _ _ _ us hl => match us, hl with | [_, _], _ => rfl
  have F_Form___init__ : FunD K "__init__" "Form.__init__" (defArgs s_Form___init__) (defBody s_Form___init__) (defScope s_Form___init__) [V.non, V.int 0, V.str "half", V.str "wrap"] [] f_Form___init__ _ := ⟨⟨_, _, _, _, _, _, _, _, _, _, rfl, l_Form___init__, c_Form___init__, .inr ⟨by simp, T_Form___init__, _, [Value.none, Value.int 0 tk_Form___init___1, Value.str "half" tk_Form___init___2, Value.str "wrap" tk_Form___init___3], _, rfl, t_Form___init__, rfl, (.cons rfl (.cons ⟨_, rfl⟩ (.cons ⟨_, rfl⟩ (.cons ⟨_, rfl⟩ .nil))))⟩, .inl rfl⟩, k_Form___init__⟩
  obtain ⟨ds_Form4, dv_Form4, b_Form4⟩ := F_Form___init__.binds1 (ps := ["self", "width", "point", "manner", "ends"]) 5 4 (by simp) rfl fun _ _ _ _ _ _ _ us its h1 h2 => match us, its, h1, h2 with | [_, _, _, _, _], [_, _, _, _], _, _ => ⟨_, rfl, rfl⟩
  cases dv_Form4
  have kbv := Fun.kbn (n := 1) (ks := ["word"]) (ps := ["self", "word"]) F_Form_value (g := fun us ws => us ++ ws) (gV := fun vs zs => vs ++ zs) (fun r s => Vals.append r s) fun _ _ _ _ _ _ us ws h1 h2 => match us, ws, h1, h2 with | [_], [_], _, _ => rfl
  have T_ENDS : ∀ H, SqT K H A_ENDS [V.str "wrap", V.str "stop"] := fun H => .inr ⟨_, _, _, t_ENDS, rfl, rfl, (by show 2 ≤ sizeLine; decide), (.cons ⟨_, rfl⟩ (.cons ⟨_, rfl⟩ .nil))⟩
  have EC_CU : PySem.ErrX.ErrC K mg "Unfit" CU := ⟨PySem.W.mg_of X G aC_CU, ei_CU, eo_CU, sa_CU, ga_CU, gg_CU, kC_CU, ex_CU, ty_CU, hd_CU⟩
  have IC_CU : PySem.ErrX.IniC l.prog K mg CU fI_CU cc_CU "Unfit.__init__" "at" s_Unfit___init__ (.ref T_CU) := ⟨iC_CU, tC_CU, ⟨_, _, _, _, _, _, _, _, _, l_CU, cd_CU, _, _, _, _, _, _, lc_CU, v2_CU, fl_CU⟩, ⟨_, _, _, ce_CU⟩, nf_CU, su_CU, sA_CU, sf_CU, th_CU, PySem.W.mg_none_of X G ms_CU, tp_CU⟩
  have XC_CU : ExcC K CU := ⟨ga_CU, gg_CU, ex_CU, hd_CU, ha_CU, hn_CU, ht_CU, hm_CU⟩
  have z : Zs mg := ⟨PySem.W.mg_none_of X G z_isinstance, PySem.W.mg_none_of X G z_int, PySem.W.mg_none_of X G z_bool, PySem.W.mg_none_of X G z_abs, PySem.W.mg_none_of X G z_str, PySem.W.mg_none_of X G z_len, PySem.W.mg_none_of X G z_range, PySem.W.mg_none_of X G z_tuple, PySem.W.mg_none_of X G z_all⟩
  have e := hfa.symm.trans (PySem.W.mg_of X G a_law)
  cases e
  refine ⟨PySem.W.fnOf "law" "law" (defArgs s_law) (defBody s_law) (defScope s_law) .none kV_law dc_law pm_law an_law cd_law ct_law, fun s v => .of_eq rfl, fun base _ _ => ?_⟩
  have c_is_whole : Cal l.prog w K mg base 1 "is_whole" ["thing"] _ := ⟨f_is_whole, _, PySem.W.mg_of X G a_is_whole, k_is_whole, b_is_whole, ok_is_whole (k := 0) F_is_whole z⟩
  have c_shared_divisor : Cal l.prog w K mg base 1 "shared_divisor" ["top", "bottom"] _ := ⟨f_shared_divisor, _, PySem.W.mg_of X G a_shared_divisor, k_shared_divisor, b_shared_divisor, ok_shared_divisor (k := 0) F_shared_divisor z⟩
  have c_lowest : Cal l.prog w K mg base 2 "lowest" ["top", "bottom"] _ := ⟨f_lowest, _, PySem.W.mg_of X G a_lowest, k_lowest, b_lowest, ok_lowest F_lowest c_shared_divisor⟩
  have c_times : Cal l.prog w K mg base 3 "times" ["one", "other"] _ := ⟨f_times, _, PySem.W.mg_of X G a_times, k_times, b_times, ok_times F_times c_lowest⟩
  have c_divided : Cal l.prog w K mg base 3 "divided" ["one", "other"] _ := ⟨f_divided, _, PySem.W.mg_of X G a_divided, k_divided, b_divided, ok_divided F_divided c_lowest⟩
  have c_two_to : Cal l.prog w K mg base 2 "two_to" ["many"] _ := ⟨f_two_to, _, PySem.W.mg_of X G a_two_to, k_two_to, b_two_to, ok_two_to F_two_to z c_is_whole ⟨_, PySem.W.mg_of X G g_GREATEST_POWER⟩⟩
  have c_downward : Cal l.prog w K mg base 1 "downward" ["top", "bottom"] _ := ⟨f_downward, _, PySem.W.mg_of X G a_downward, k_downward, b_downward, ok_downward (k := 0) F_downward⟩
  have c_upward : Cal l.prog w K mg base 1 "upward" ["top", "bottom"] _ := ⟨f_upward, _, PySem.W.mg_of X G a_upward, k_upward, b_upward, ok_upward (k := 0) F_upward⟩
  have c_nearest_greater : Cal l.prog w K mg base 1 "nearest_greater" ["top", "bottom"] _ := ⟨f_nearest_greater, _, PySem.W.mg_of X G a_nearest_greater, k_nearest_greater, b_nearest_greater, ok_nearest_greater (k := 0) F_nearest_greater⟩
  have MM : Mans l.prog w K mg base A_MANNERS es_MANNERS dn_MANNERS := ⟨PySem.W.mg_of X G g_MANNERS, ⟨t_MANNERS, y_MANNERS, w_MANNERS⟩, fun m => match m with
    | .down => ⟨f_downward, _, d_MANNERS_down, k_downward, b_downward, ok_downward (k := 1) F_downward⟩
    | .up => ⟨f_upward, _, d_MANNERS_up, k_upward, b_upward, ok_upward (k := 1) F_upward⟩
    | .inn => ⟨f_inward, _, d_MANNERS_in, k_inward, b_inward, ok_inward F_inward c_downward c_upward⟩
    | .out => ⟨f_outward, _, d_MANNERS_out, k_outward, b_outward, ok_outward F_outward c_downward c_upward⟩
    | .half => ⟨f_nearest_greater, _, d_MANNERS_half, k_nearest_greater, b_nearest_greater, ok_nearest_greater (k := 1) F_nearest_greater⟩
    | .even => ⟨f_nearest_even, _, d_MANNERS_even, k_nearest_even, b_nearest_even, ok_nearest_even F_nearest_even c_nearest_greater⟩
    | .far => ⟨f_nearest_far, _, d_MANNERS_far, k_nearest_far, b_nearest_far, ok_nearest_far F_nearest_far c_nearest_greater⟩⟩
  have c_is_manner : Cal l.prog w K mg base 1 "is_manner" ["thing"] _ := ⟨f_is_manner, _, PySem.W.mg_of X G a_is_manner, k_is_manner, b_is_manner, ok_is_manner (k := 0) MM F_is_manner z⟩
  have c_rounded : Cal l.prog w K mg base 3 "rounded" ["value", "manner"] _ := ⟨f_rounded, _, PySem.W.mg_of X G a_rounded, k_rounded, b_rounded, ok_rounded MM F_rounded c_is_manner⟩
  have Z : FCst K mg A_ENDS := ⟨⟨_, PySem.W.mg_of X G g_LEAST_WIDTH⟩, ⟨_, PySem.W.mg_of X G g_GREATEST_WIDTH⟩, ⟨_, PySem.W.mg_of X G g_GREATEST_POINT⟩, PySem.W.mg_of X G g_ENDS, T_ENDS⟩
  have c_is_width : Cal l.prog w K mg base 2 "is_width" ["thing"] _ := ⟨f_is_width, _, PySem.W.mg_of X G a_is_width, k_is_width, b_is_width, ok_is_width Z F_is_width c_is_whole⟩
  have c_is_point : Cal l.prog w K mg base 2 "is_point" ["thing"] _ := ⟨f_is_point, _, PySem.W.mg_of X G a_is_point, k_is_point, b_is_point, ok_is_point Z F_is_point z c_is_whole⟩
  have c_is_ends : Cal l.prog w K mg base 1 "is_ends" ["thing"] _ := ⟨f_is_ends, _, PySem.W.mg_of X G a_is_ends, k_is_ends, b_is_ends, ok_is_ends (k := 0) Z F_is_ends z⟩
  have T : FTxt K mg C := ⟨⟨pg_C, hd_C, po_C, sa_C⟩, n_C_width, n_C_point, n_C_manner, n_C_ends⟩
  have c_Form : CalC l.prog w K mg base 3 "Form" C ["self", "width", "point", "manner", "ends"] [] _ := ⟨f_Form___init__, _, _, ⟨mk_C, a_Form___init__, i_Form___init__, kc_C⟩, PySem.W.mg_of X G aC_C, .nil, b_Form4, ok_Form___init__ T F_Form___init__ c_is_width c_is_point c_is_manner c_is_ends⟩
  have m_least : CalM l.prog w K mg base 1 C "least" ["self"] _ := ⟨f_Form_least, _, ⟨a_Form_least, i_Form_least, k_Form_least⟩, b_Form_least, ok_Form_least (k := 0) T F_Form_least⟩
  have m_greatest : CalM l.prog w K mg base 1 C "greatest" ["self"] _ := ⟨f_Form_greatest, _, ⟨a_Form_greatest, i_Form_greatest, k_Form_greatest⟩, b_Form_greatest, ok_Form_greatest (k := 0) T F_Form_greatest⟩
  have m_has : CalM l.prog w K mg base 2 C "has" ["self", "thing"] _ := ⟨f_Form_has, _, ⟨a_Form_has, i_Form_has, k_Form_has⟩, b_Form_has, ok_Form_has T F_Form_has c_is_whole m_least m_greatest⟩
  have m_step : CalM l.prog w K mg base 3 C "step" ["self"] _ := ⟨f_Form_step, _, ⟨a_Form_step, i_Form_step, k_Form_step⟩, b_Form_step, ok_Form_step T F_Form_step c_two_to⟩
  have m_word_for : CalM l.prog w K mg base 3 C "word_for" ["self", "number"] _ := ⟨f_Form_word_for, _, ⟨a_Form_word_for, i_Form_word_for, k_Form_word_for⟩, b_Form_word_for, ok_Form_word_for T F_Form_word_for m_has m_least m_greatest⟩
  have m_ended : CalM l.prog w K mg base 4 C "ended" ["self", "number"] _ := ⟨f_Form_ended, _, ⟨a_Form_ended, i_Form_ended, k_Form_ended⟩, b_Form_ended, ok_Form_ended T F_Form_ended m_word_for⟩
  have m_kept : CalM l.prog w K mg base 5 C "kept" ["self", "value"] _ := ⟨f_Form_kept, _, ⟨a_Form_kept, i_Form_kept, k_Form_kept⟩, b_Form_kept, ok_Form_kept T F_Form_kept c_rounded c_divided m_step m_ended⟩
  have XX : Errs K mg CE CU CN CT := ⟨PySem.W.mg_of X G aC_CE, PySem.W.mg_of X G aC_CU, PySem.W.mg_of X G aC_CN, PySem.W.mg_of X G aC_CT, XC_CU, nf_CU, xm, ki_U, ki_N, ki_T⟩
  have okV := ok_Form_value (base := base) T XX EC_CU (unfit_ini t_CU z_CU EC_CU IC_CU) F_Form_value m_has c_times m_step
  have m_value : CalMX l.prog w K mg base 4 C "value" ["self", "word"] _ := ⟨f_Form_value, _, ⟨a_Form_value, i_Form_value, k_Form_value⟩, b_Form_value, okV⟩
  have m_value_k : CalMXK l.prog w K mg base 4 C "value" ["self", "word"] ["word"] _ _ := ⟨f_Form_value, _, _, ⟨a_Form_value, i_Form_value, k_Form_value⟩, kbv, okV⟩
  have c__law_cell_at : Cal l.prog w K mg base 1 "_law_cell_at" ["_law_script", "_law_k"] _ := ⟨f__law_cell_at, _, PySem.W.mg_of X G a__law_cell_at, k__law_cell_at, b__law_cell_at, ok_cell (k := 0) F__law_cell_at z.len⟩
  have c__law_well : Cal l.prog w K mg base 1 "_law_well" ["_law_cell"] _ := ⟨f__law_well, _, PySem.W.mg_of X G a__law_well, k__law_well, b__law_well, ok_well (k := 0) F__law_well z.int⟩
  have c__law_draw : Cal l.prog w K mg base 1 "_law_draw" ["_law_well_here", "_law_many"] _ := ⟨f__law_draw, _, PySem.W.mg_of X G a__law_draw, k__law_draw, b__law_draw, ok_draw (k := 0) F__law_draw⟩
  have c__law_value : Cal l.prog w K mg base 1 "_law_value" ["_law_entry", "_law_point"] _ := ⟨f__law_value, _, PySem.W.mg_of X G a__law_value, k__law_value, b__law_value, ok__law_value (k := 0) F__law_value z⟩
  have c__law_fraction : Cal l.prog w K mg base 1 "_law_fraction" ["_law_found", "_law_due"] _ := ⟨f__law_fraction, _, PySem.W.mg_of X G a__law_fraction, k__law_fraction, b__law_fraction, ok__law_fraction (k := 0) F__law_fraction z⟩
  have c__law_refused : Cal l.prog w K mg base 5 "_law_refused" ["_law_form", "_law_thing"] _ := ⟨f__law_refused, _, PySem.W.mg_of X G a__law_refused, k__law_refused, b__law_refused, ok__law_refused T XX EC_CU F__law_refused z m_value⟩
  exact ok_law T F_law z c__law_cell_at c__law_well c__law_draw c_Form c__law_value c__law_fraction c__law_refused m_value m_value_k m_kept

end E1

open PySem PySem.W PyProof.Rows
set_option maxRecDepth 100000 in
set_option maxHeartbeats 0 in
theorem PySem.Challenge.cw_echobound_k08_words_and_values_holds : PySem.Challenge.rw_echobound_k08_words_and_values.Holds := by
  w_on; o_law; k_head; (case hw => w_witness2)
  k_fill
  refine L2.walk_of (l := PySem.Challenge.rw_echobound_k08_words_and_values) (n := 63) (k := 6) (x := "_law_script") (CX := fun _ => L2.CX0) (sp := fun w => E1.spLaw _) rfl (by decide) rfl ⟨rfl, by decide, by decide⟩ (fun w h Y => PySem.W.kIn_of Y) ?F (fun _ _ a ns hl _ hS => ⟨a, ns, rfl, hS, hl, fun _ => rfl⟩) (fun _ _ _ _ _ h => h)
  case F =>
    intro w mg fa h KX G hmg
    refine' E1.all_mk KX G hmg ?a_is_whole ?l_is_whole ?c_is_whole ?k_is_whole ?a_shared_divisor ?l_shared_divisor ?c_shared_divisor ?k_shared_divisor ?a_lowest ?l_lowest ?c_lowest ?k_lowest ?a_times ?l_times ?c_times ?k_times ?a_divided ?l_divided ?c_divided ?k_divided ?a_two_to ?l_two_to ?c_two_to ?k_two_to ?a_downward ?l_downward ?c_downward ?k_downward ?a_upward ?l_upward ?c_upward ?k_upward ?a_inward ?l_inward ?c_inward ?k_inward ?a_outward ?l_outward ?c_outward ?k_outward ?a_nearest_greater ?l_nearest_greater ?c_nearest_greater ?k_nearest_greater ?a_nearest_even ?l_nearest_even ?c_nearest_even ?k_nearest_even ?a_nearest_far ?l_nearest_far ?c_nearest_far ?k_nearest_far ?a_is_manner ?l_is_manner ?c_is_manner ?k_is_manner ?a_rounded ?l_rounded ?c_rounded ?k_rounded ?t_rounded ?a_is_width ?l_is_width ?c_is_width ?k_is_width ?a_is_point ?l_is_point ?c_is_point ?k_is_point ?a_is_ends ?l_is_ends ?c_is_ends ?k_is_ends ?a__law_cell_at ?l__law_cell_at ?c__law_cell_at ?k__law_cell_at ?a__law_well ?l__law_well ?c__law_well ?k__law_well ?a__law_draw ?l__law_draw ?c__law_draw ?k__law_draw ?a__law_value ?l__law_value ?c__law_value ?k__law_value ?a__law_fraction ?l__law_fraction ?c__law_fraction ?k__law_fraction ?a__law_refused ?l__law_refused ?c__law_refused ?k__law_refused ?a_law ?l_law ?c_law ?k_law ?aC_C ?pg_C ?hd_C ?po_C ?sa_C ?mk_C ?kc_C ?n_C_width ?n_C_point ?n_C_manner ?n_C_ends ?a_Form_least ?i_Form_least ?l_Form_least ?c_Form_least ?k_Form_least ?a_Form_greatest ?i_Form_greatest ?l_Form_greatest ?c_Form_greatest ?k_Form_greatest ?a_Form_has ?i_Form_has ?l_Form_has ?c_Form_has ?k_Form_has ?a_Form_step ?i_Form_step ?l_Form_step ?c_Form_step ?k_Form_step ?a_Form_value ?i_Form_value ?l_Form_value ?c_Form_value ?k_Form_value ?a_Form_word_for ?i_Form_word_for ?l_Form_word_for ?c_Form_word_for ?k_Form_word_for ?a_Form_ended ?i_Form_ended ?l_Form_ended ?c_Form_ended ?k_Form_ended ?a_Form_kept ?i_Form_kept ?l_Form_kept ?c_Form_kept ?k_Form_kept ?a_Form___init__ ?i_Form___init__ ?l_Form___init__ ?c_Form___init__ ?k_Form___init__ ?t_Form___init__ ?g_GREATEST_POWER ?g_LEAST_WIDTH ?g_GREATEST_WIDTH ?g_GREATEST_POINT ?g_ENDS ?t_ENDS ?g_MANNERS ?t_MANNERS ?y_MANNERS ?w_MANNERS ?d_MANNERS_down ?d_MANNERS_up ?d_MANNERS_in ?d_MANNERS_out ?d_MANNERS_half ?d_MANNERS_even ?d_MANNERS_far ?aC_CE ?aC_CN ?aC_CT ?aC_CU ?ei_CU ?eo_CU ?sa_CU ?ga_CU ?gg_CU ?kC_CU ?ex_CU ?ty_CU ?hd_CU ?ha_CU ?hn_CU ?ht_CU ?hm_CU ?iC_CU ?tC_CU ?l_CU ?cd_CU ?lc_CU ?v2_CU ?fl_CU ?ce_CU ?nf_CU ?su_CU ?sA_CU ?sf_CU ?th_CU ?ms_CU ?tp_CU ?t_CU ?z_CU ?xm ?ki_U ?ki_N ?ki_T ?z_isinstance ?z_int ?z_bool ?z_abs ?z_str ?z_len ?z_range ?z_tuple ?z_all
    (case a_is_whole => k_is)
    (case l_is_whole => k_is)
    (case c_is_whole => k_is)
    (case k_is_whole => k_is)
    (case a_shared_divisor => k_is)
    (case l_shared_divisor => k_is)
    (case c_shared_divisor => k_is)
    (case k_shared_divisor => k_is)
    (case a_lowest => k_is)
    (case l_lowest => k_is)
    (case c_lowest => k_is)
    (case k_lowest => k_is)
    (case a_times => k_is)
    (case l_times => k_is)
    (case c_times => k_is)
    (case k_times => k_is)
    (case a_divided => k_is)
    (case l_divided => k_is)
    (case c_divided => k_is)
    (case k_divided => k_is)
    (case a_two_to => k_is)
    (case l_two_to => k_is)
    (case c_two_to => k_is)
    (case k_two_to => k_is)
    (case a_downward => k_is)
    (case l_downward => k_is)
    (case c_downward => k_is)
    (case k_downward => k_is)
    (case a_upward => k_is)
    (case l_upward => k_is)
    (case c_upward => k_is)
    (case k_upward => k_is)
    (case a_inward => k_is)
    (case l_inward => k_is)
    (case c_inward => k_is)
    (case k_inward => k_is)
    (case a_outward => k_is)
    (case l_outward => k_is)
    (case c_outward => k_is)
    (case k_outward => k_is)
    (case a_nearest_greater => k_is)
    (case l_nearest_greater => k_is)
    (case c_nearest_greater => k_is)
    (case k_nearest_greater => k_is)
    (case a_nearest_even => k_is)
    (case l_nearest_even => k_is)
    (case c_nearest_even => k_is)
    (case k_nearest_even => k_is)
    (case a_nearest_far => k_is)
    (case l_nearest_far => k_is)
    (case c_nearest_far => k_is)
    (case k_nearest_far => k_is)
    (case a_is_manner => k_is)
    (case l_is_manner => k_is)
    (case c_is_manner => k_is)
    (case k_is_manner => k_is)
    (case a_rounded => k_is)
    (case l_rounded => k_is)
    (case c_rounded => k_is)
    (case k_rounded => k_is)
    (case t_rounded => k_is)
    (case a_is_width => k_is)
    (case l_is_width => k_is)
    (case c_is_width => k_is)
    (case k_is_width => k_is)
    (case a_is_point => k_is)
    (case l_is_point => k_is)
    (case c_is_point => k_is)
    (case k_is_point => k_is)
    (case a_is_ends => k_is)
    (case l_is_ends => k_is)
    (case c_is_ends => k_is)
    (case k_is_ends => k_is)
    (case a__law_cell_at => k_is)
    (case l__law_cell_at => k_is)
    (case c__law_cell_at => k_is)
    (case k__law_cell_at => k_is)
    (case a__law_well => k_is)
    (case l__law_well => k_is)
    (case c__law_well => k_is)
    (case k__law_well => k_is)
    (case a__law_draw => k_is)
    (case l__law_draw => k_is)
    (case c__law_draw => k_is)
    (case k__law_draw => k_is)
    (case a__law_value => k_is)
    (case l__law_value => k_is)
    (case c__law_value => k_is)
    (case k__law_value => k_is)
    (case a__law_fraction => k_is)
    (case l__law_fraction => k_is)
    (case c__law_fraction => k_is)
    (case k__law_fraction => k_is)
    (case a__law_refused => k_is)
    (case l__law_refused => k_is)
    (case c__law_refused => k_is)
    (case k__law_refused => k_is)
    (case a_law => k_is)
    (case l_law => k_is)
    (case c_law => k_is)
    (case k_law => k_is)
    (case aC_C => k_is)
    (case pg_C => k_is)
    (case hd_C => k_is)
    (case po_C => k_is)
    (case sa_C => k_is)
    (case mk_C => k_is)
    (case kc_C => k_is)
    (case n_C_width => k_is)
    (case n_C_point => k_is)
    (case n_C_manner => k_is)
    (case n_C_ends => k_is)
    (case a_Form_least => k_is)
    (case i_Form_least => k_is)
    (case l_Form_least => k_is)
    (case c_Form_least => k_is)
    (case k_Form_least => k_is)
    (case a_Form_greatest => k_is)
    (case i_Form_greatest => k_is)
    (case l_Form_greatest => k_is)
    (case c_Form_greatest => k_is)
    (case k_Form_greatest => k_is)
    (case a_Form_has => k_is)
    (case i_Form_has => k_is)
    (case l_Form_has => k_is)
    (case c_Form_has => k_is)
    (case k_Form_has => k_is)
    (case a_Form_step => k_is)
    (case i_Form_step => k_is)
    (case l_Form_step => k_is)
    (case c_Form_step => k_is)
    (case k_Form_step => k_is)
    (case a_Form_value => k_is)
    (case i_Form_value => k_is)
    (case l_Form_value => k_is)
    (case c_Form_value => k_is)
    (case k_Form_value => k_is)
    (case a_Form_word_for => k_is)
    (case i_Form_word_for => k_is)
    (case l_Form_word_for => k_is)
    (case c_Form_word_for => k_is)
    (case k_Form_word_for => k_is)
    (case a_Form_ended => k_is)
    (case i_Form_ended => k_is)
    (case l_Form_ended => k_is)
    (case c_Form_ended => k_is)
    (case k_Form_ended => k_is)
    (case a_Form_kept => k_is)
    (case i_Form_kept => k_is)
    (case l_Form_kept => k_is)
    (case c_Form_kept => k_is)
    (case k_Form_kept => k_is)
    (case a_Form___init__ => k_is)
    (case i_Form___init__ => k_is)
    (case l_Form___init__ => k_is)
    (case c_Form___init__ => k_is)
    (case k_Form___init__ => k_is)
    (case t_Form___init__ => k_is)
    (case g_GREATEST_POWER => k_is)
    (case g_LEAST_WIDTH => k_is)
    (case g_GREATEST_WIDTH => k_is)
    (case g_GREATEST_POINT => k_is)
    (case g_ENDS => k_is)
    (case t_ENDS => k_is)
    (case g_MANNERS => k_is)
    (case t_MANNERS => k_is)
    (case y_MANNERS => (repeat' first | exact trivial | refine ⟨⟨_, _, rfl, rfl⟩, ?_⟩))
    (case w_MANNERS => first | k_is | rfl | decide +kernel)
    (case d_MANNERS_down => k_is)
    (case d_MANNERS_up => k_is)
    (case d_MANNERS_in => k_is)
    (case d_MANNERS_out => k_is)
    (case d_MANNERS_half => k_is)
    (case d_MANNERS_even => k_is)
    (case d_MANNERS_far => k_is)
    (case aC_CE => k_is)
    (case aC_CN => k_is)
    (case aC_CT => k_is)
    (case aC_CU => k_is)
    (case ei_CU => kx_is)
    (case eo_CU => kx_is)
    (case sa_CU => k_is)
    (case ga_CU => k_is)
    (case gg_CU => k_is)
    (case kC_CU => k_is)
    (case ex_CU => k_is)
    (case ty_CU => k_is)
    (case hd_CU => k_is)
    (case ha_CU => k_is)
    (case hn_CU => k_is)
    (case ht_CU => k_is)
    (case hm_CU => k_is)
    (case iC_CU => k_is)
    (case tC_CU => k_is)
    (case l_CU => k_is)
    (case cd_CU => k_is)
    (case lc_CU => k_is)
    (case v2_CU => rfl)
    (case fl_CU => first | rfl | decide +kernel)
    (case ce_CU => k_is)
    (case nf_CU => k_is)
    (case su_CU => ks_is)
    (case sA_CU => k_is)
    (case sf_CU => k_is)
    (case th_CU => k_is)
    (case ms_CU => k_is)
    (case tp_CU => first | rfl | decide +kernel)
    (case t_CU => k_is)
    (case z_CU => rfl)
    (case xm => kts_exm)
    (case ki_U => kit_is)
    (case ki_N => kit_is)
    (case ki_T => kit_is)
    (case z_isinstance => k_is)
    (case z_int => k_is)
    (case z_bool => k_is)
    (case z_abs => k_is)
    (case z_str => k_is)
    (case z_len => k_is)
    (case z_range => k_is)
    (case z_tuple => k_is)
    (case z_all => k_is)
