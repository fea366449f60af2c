import PyProof.Rows.All
import Wide.All
import OpenK.AllK
import Wide.FinOn
import HandS.Codes
import HandS.ForMost
import HandS.Wide
import HandS.Zip
import HandS.IsInst
import HandS.Defaults
import HandS.Style
import HandS.ForExc
import HandS.Walk
import HandS.More
import HandS.CallLocal
import HandS.WideBits
import KE.BitLaws
import KE.KBits
import HandS.FStr
import HandS.ExcField
import HandS.ExcIs
import KE.KExcSuper
import KE.KExcInit
import KE.KExcIs
import PyProof.FitsInt
import KE.RegKSuper
import KE.RegKIsAll
import KE.RegKTryMore
import PySem.Challenge.RW_echobound_k03_seven_manners
set_option Elab.async false
set_option linter.all false
set_option maxRecDepth 100000
set_option maxHeartbeats 4000000
namespace PySem
namespace ErrX
open PySem.W PySem.Calls PyProof.Rows PySem.HandSPX
abbrev bmA : List Value := [.type "ArithmeticError", .type "Exception", .type "BaseException", .type "object"]
/-- what the written part says of an error class under ArithmeticError -/
structure ErrC (K : Frag) (mg : Str → Option Value) (x : Str) (C : Addr) : Prop where
  gC : mg x = some (.ref C)
  ei : excInitIn K C bmA "ArithmeticError.__new__" = true
  eo : excOver K C bmA = true
  sa : findIn K (.ref C) "__setattr__" = some (some (.builtin "object.__setattr__"))
  ga : findIn K (.ref C) "__getattribute__" = some (some (.builtin "BaseException.__getattribute__"))
  gg : findIn K (.ref C) "__getattr__" = some none
  kC : keepIn K (.ref C) = true
  exC : subIn K (.ref C) (.type "BaseException") = some true
  tyC : typeIn K (.ref C) = some (.type "type")
  hdC : hasDictIn K C = true
/-- its __init__: super().__init__(f'..'), then one field of the same name as the parameter -/
structure IniC (prog : Program) (K : Frag) (mg : Str → Option Value) (C fI cc : Addr) (qual fld : Str) (st : Stmt) (dV : Value) : Prop where
  iC : findIn K (.ref C) "__init__" = some (some (.ref fI))
  tC : typeIn K (.ref fI) = some (.type "function")
  fn : ∃ (oc : Value) (od : Option Addr) (kV doc pm : Value) (an : Option Addr) (cda : Addr) (ct : Value) (osl : Array (Option Value)),
    K.lookup fI = some ⟨oc, od, .func (ksFn "__init__" qual (L2.defArgs st) (L2.defBody st) (L2.defScope st) dV kV doc pm an (.ref cda) ct cc), osl⟩ ∧ codeIn K (.ref cda) qual = true ∧
    ∃ (ccl : Value) (cdd : Option Addr) (vs : Array Value) (ccs : Array (Option Value)) (file : Str) (tf : Tok), K.lookup cda = some ⟨ccl, cdd, .fields vs, ccs⟩ ∧ vs[2]? = some (.str file tf) ∧ ((prog.main.file : Str) == file) = true
  cell : ∃ (cl : Value) (cld : Option Addr) (csl : Array (Option Value)), K.lookup cc = some ⟨cl, cld, .cell (some (.ref C)), csl⟩
  noF : findIn K (.ref C) fld = some none
  sup : ks_superIn K C C "__init__" = some (some (.builtin "ArithmeticError.__init__"))
  subA : subIn K (.ref C) (.type "ArithmeticError") = some true
  slf : mroIn K C (.ref C) = some true
  th : nsIn K cStatics "thirdparty.any" = some none
  msup : mg "super" = none
  top : (prog.main.scope.names.lookup ("super" : Str)).isSome = false
/-- the parts of the text -/
inductive FP (fld : Str) : Expr → Prop
  | c {x : Str} {j : Nat} {pos : Pos} (h : x.length ≤ 1000) : FP fld (.Constant (.str x) j pos)
  | f {p q : Pos} : FP fld (.FormattedValue (.Name fld p) (-1) none q)
/-- a value that is written as a text of at most a thousand signs -/
def FmtOk (v : Value) : Prop := (∃ y t, v = .str y t ∧ y.length ≤ 1000) ∨ ∃ i t, v = .int i t ∧ i.natAbs.log2 < 1920 ∧ (toString i : String).length ≤ 1000
section
variable {prog : Program} {w : World} {A : Around} {E : Value → Shared → Prop} {R : Result → Shared → Prop} {s : Shared} {K : Frag} {mg mb : Str → Option Value} {C fI cc : Addr} {qual fld : Str} {st : Stmt}
theorem joins_ok {env : Env} {m : Str → Option Value} {v : Value} (hk : env.scope.kind = .function) (hl : env.kindOf fld = some .local) (hd : (fld == ("__debug__" : Str)) = false) (hv : m fld = some v) (fv : FmtOk v) :
    ∀ (es : List Expr) (acc : Str) (s : Shared) (Q : Str → Shared → Prop), (∀ e ∈ es, FP fld e) → acc.length + 1000 * es.length ≤ 100000 → s.heap.Ns env.locals m →
      (∀ out tk, out.length ≤ 100000 → Q out { s with toks := tk }) → Joins (model prog w) A E (evalEach es env) acc Q s
  | [], acc, s, Q, _, hz, _, hq => by
    have e0 : evalEach [] env = [] := by first | rfl | simp [evalEach]
    rw [e0]
    have := hq acc s.toks (by simpa using hz)
    exact this
  | e :: es, acc, s, Q, hp, hz, hn, hq => by
    have e0 : evalEach (e :: es) env = eval e env :: evalEach es env := by first | rfl | simp [evalEach]
    rw [e0]
    have hp' : ∀ e ∈ es, FP fld e := fun e h => hp e (List.mem_cons_of_mem _ h)
    rw [List.length_cons] at hz
    have step : ∀ (y : Str) (t : Tok) (tk : Nat), y.length ≤ 1000 → ∃ y' t', Value.str y t = .str y' t' ∧ (acc ++ y').length ≤ sizeLine ∧ Joins (model prog w) A E (evalEach es env) (acc ++ y') Q { s with toks := tk } := fun y t tk hy => by
      have hlen : (acc ++ y).length = acc.length + y.length := by first | exact Str.length_append _ _ | simp
      refine ⟨y, t, rfl, ?_, ?_⟩
      · rw [hlen, sizeLine_eq]
        omega
      · exact joins_ok hk hl hd hv fv es (acc ++ y) { s with toks := tk } Q hp' (by rw [hlen]; omega) hn fun out tk' ho => hq out tk' ho
    show wpAny _ _ (eval e env) _ _ _
    cases hp e List.mem_cons_self with
    | c h => exact Calls.Constant_str (step _ _ _ h)
    | f =>
      refine wpAny_FormattedValue_plain (wpAny_Name (wpAny_loadName_local hk hl hn hv ?_) hd)
      rcases fv with ⟨y, t, rfl, hy⟩ | ⟨i, t, rfl, hi, hy⟩
      · exact wpAny_formatField_str (step y t s.toks hy) (step y _ _ hy) (by rw [sizeLine_eq]; omega)
      · exact wpAny_formatField_int hi (step _ _ _ (by rw [ofString_length]; exact hy))
end
end ErrX
end PySem

namespace PySem
namespace ErrX
open PySem.W PySem.Calls PyProof.Rows PySem.HandSPX
/-- a dict with one text for its key -/
theorem one_key {h : Heap} {dx : Addr} {fld : Str} {hs : Int} {tk : Tok} {v : Value} (e : h.get? dx = some (dictOf [⟨hs, .str fld tk, v⟩] 1)) : h.Ns1 dx (fun y => if y = fld then some v else none) := by
  refine ⟨_, _, _, e, rfl, fun d hd => ?_, List.pairwise_singleton _ _, fun y => ?_⟩
  · obtain rfl : d = ⟨hs, .str fld tk, v⟩ := by simpa using hd
    exact ⟨fld, tk, rfl⟩
  · by_cases z : y = fld
    · subst z
      simp [nsFind, findBy, Value.isStr]
    · simp [nsFind, findBy, Value.isStr, z, Ne.symm z]
/-- what __init__ leaves of a fresh error at x -/
structure IniEnd (h h' : Heap) (x C dx : Addr) (fld : Str) (v : Value) : Prop where
  keep : ∀ b o, b ≠ x → h.get? b = some o → h'.get? b = some o
  obj : ∃ t1 : Addr, h'.get? x = some { cls := .ref C, dict := some dx, data := .fields #[.ref t1, .none, .none, .none, .bool false, .none] }
  dbig : h.objs.size ≤ dx
  dne : dx ≠ x
  ns : h'.Ns1 dx (fun y => if y = fld then some v else none)
section
variable {prog : Program} {w : World} {A : Around} {E : Value → Shared → Prop} {R : Result → Shared → Prop} {s : Shared} {K : Frag} {mg : Str → Option Value} {C fI cc : Addr} {nm qual fld : Str} {st : Stmt}
abbrev iniScope (fld : Str) : Scope := { kind := .function, names := [(Str.ofString "self", .local), (fld, .local), (Str.ofString "__class__", .free), (Str.ofString "super", .globalImplicit)], isGenerator := false, isCoroutine := false, more := [] }
abbrev iniBody (fld : Str) (v1 v2 : Expr) (rest : List Expr) (p1 p2 p3 p4 p5 p6 q1 q2 q3 q4 : Pos) : List Stmt :=
  [.Expr (.Call (.Attribute (.Call (.Name "super" p1) [] [] p2) "__init__" p3) [.JoinedStr (v1 :: v2 :: rest) p4] [] p5) p6, .Assign [.Attribute (.Name "self" q1) fld q2] (.Name fld q3) q4]
/-- a field's name that is none of these -/
structure FldOk (fld : Str) : Prop where
  f1 : (fld == Str.ofString "self") = false
  f2 : (Str.ofString "__class__" == fld) = false
  f3 : (Str.ofString "super" == fld) = false
  f4 : (Str.ofString "self" == fld) = false
  f5 : (fld == Str.ofString "__debug__") = false
section
variable {fld : Str}
theorem lk_self : (iniScope fld).names.lookup (Str.ofString "self") = some .local := by
  rw [List.lookup_cons, beq_self_eq_true]
theorem lk_fld (O : FldOk fld) : (iniScope fld).names.lookup fld = some .local := by
  rw [List.lookup_cons, O.f1, List.lookup_cons, beq_self_eq_true]
theorem lk_cls (O : FldOk fld) : (iniScope fld).names.lookup (Str.ofString "__class__") = some .free := by
  rw [List.lookup_cons, show (Str.ofString "__class__" == Str.ofString "self") = false by decide +kernel, List.lookup_cons, O.f2, List.lookup_cons, beq_self_eq_true]
theorem lk_sup (O : FldOk fld) : (iniScope fld).names.lookup (Str.ofString "super") = some .globalImplicit := by
  rw [List.lookup_cons, show (Str.ofString "super" == Str.ofString "self") = false by decide +kernel, List.lookup_cons, O.f3, List.lookup_cons, show (Str.ofString "super" == Str.ofString "__class__") = false by decide +kernel, List.lookup_cons, beq_self_eq_true]
end
theorem err_init {s1 p1 p2 p3 p4 p5 p6 q1 q2 q3 q4 : Pos} {v1 v2 : Expr} {rest : List Expr} (EC : ErrC K mg nm C) {dV : Value} (IC : IniC prog K mg C fI cc qual fld st dV) (O : FldOk fld)
    (hbd : L2.defBody st = iniBody fld v1 v2 rest p1 p2 p3 p4 p5 p6 q1 q2 q3 q4)
    (hpar : ((L2.defArgs st).posonlyargs ++ (L2.defArgs st).args).head? = some { arg := "self", annotation := none, pos := s1 })
    (hps : ∀ e ∈ v1 :: v2 :: rest, FP fld e) (hlen : rest.length ≤ 20) (hpos : (p3.endLine == p5.line) = true) (hsc : L2.defScope st = iniScope fld)
    {x t0 : Addr} {v : Value} (MO : L2.Mod K mg s.heap) (hx : s.heap.get? x = some (excO C t0)) (hnx : K.lookup x = none) (hroom : A.depth < recursionLimit) (fv : FmtOk v)
    (hbind : ∀ kV doc pm an cda ct, BindsTo s (ksFn "__init__" qual (L2.defArgs st) (L2.defBody st) (L2.defScope st) dV kV doc pm an (.ref cda) ct cc) ⟨[.ref x, v], []⟩ [(Str.ofString "self", .ref x), (fld, v)])
    (hq : ∀ h' tk dx, IniEnd s.heap h' x C dx fld v → R (.ok (.ret .none)) { s with heap := h', toks := tk }) :
    codeAny (model prog w) A (.call (.ref fI) ⟨[.ref x, v], []⟩) R s := by
  obtain ⟨oc, od, kV, doc, pm, an, cda, ct, osl, ho, hcd, ccl, cdd, vs, ccs, file, tf, hcda, hvs, hfile⟩ := IC.fn
  have X := MO.kin
  have hb := hbind kV doc pm an cda ct
  rw [hbd, hsc] at ho hb
  obtain ⟨cl, cld, csl, hcell⟩ := IC.cell
  obtain ⟨mb, hmb, hmb2⟩ := MO.blt
  obtain ⟨nm', N', qn, bs, bm, hdct, sn, sub, ab, col, dd, k0, k1, k2, k3, k5, hC, hT⟩ := excInit_of X EC.ei
  obtain ⟨hp, g, d, t, os⟩ := s
  refine ks_codeAny_call_defAt (fd := ksFn "__init__" qual (L2.defArgs st) (iniBody fld v1 v2 rest p1 p2 p3 p4 p5 p6 q1 q2 q3 q4) (iniScope fld) dV kV doc pm an (.ref cda) ct cc) (body := iniBody fld v1 v2 rest p1 p2 p3 p4 p5 p6 q1 q2 q3 q4) (binds := [(Str.ofString "self", .ref x), (fld, v)])
    hroom (X _ _ ho) rfl MO.nolimit (codeRec_of X hcd) rfl hb ?_ ?_ (fun h₁ hns k => ?_)
  · intro y hy z
    have hy' : y ∈ (iniScope fld).names := hy
    simp only [List.mem_cons, List.not_mem_nil, or_false] at hy'
    rcases hy' with rfl | rfl | rfl | rfl <;> cases z
  · intro y hy
    simp only [List.mem_cons, List.not_mem_nil, or_false] at hy
    rcases hy with rfl | rfl
    · exact lk_self
    · exact lk_fld O
  · have X₁ : K.In h₁ := X.keeps k
    have hx₁ := k _ _ hx
    have hC₁ := k _ _ hC
    have mS : (fun y => [(Str.ofString "self", Value.ref x), (fld, v)].reverse.lookup y) (Str.ofString "self") = some (.ref x) := by
      show List.lookup (Str.ofString "self") [(fld, v), (Str.ofString "self", Value.ref x)] = _
      rw [List.lookup_cons, O.f4, List.lookup_cons, beq_self_eq_true]
    have mF : (fun y => [(Str.ofString "self", Value.ref x), (fld, v)].reverse.lookup y) fld = some v := by
      show List.lookup fld [(fld, v), (Str.ofString "self", Value.ref x)] = _
      rw [List.lookup_cons, beq_self_eq_true]
    refine ks_wpAt_execs_cons (ks_wpAt_Expr_any (ks_wpAt_MethodCall (pl := (do return (← importBound (.Call (.Name "super" p1) [] [] p2) (ksEnv qual (iniScope fld) hp.objs.size fI (.ref cda) cc)).getD true)) ?_ ?_))
    rotate_left
    · rw [arm_eval_Call]
      unfold methodCall
      have e2 : ∀ env : Env, methodCallPos (methodCallForm ([Expr.JoinedStr (v1 :: v2 :: rest) p4].length + ([] : List Keyword).length) (backTo p5 (starEach [Expr.JoinedStr (v1 :: v2 :: rest) p4] env)) (backToKw p5 (keywordEach [] env))) (.Call (.Name "super" p1) [] [] p2) env p3 p5 = pure p5 := fun env => by
        show (if (!true || p3.endLine == p5.line) = true then pure p5 else _) = _
        rw [hpos]
        rfl
      rw [e2]
      rfl
    refine ks_wpAt_super_base (f := fI) (cc := cda) (lk_sup O) (lk_cls O) (by decide +kernel) rfl (X₁ _ _ ho) rfl hpar rfl (X₁ _ _ hcda) rfl hvs hfile IC.top ?_
    refine ks_loadName_global rfl (lk_sup O) (loadGlobal_builtin (MO.glob.keeps k) IC.msup (hmb.keeps k) ((hmb2 "super" (by decide)).trans (show bootBuiltins "super" = some (.type "super") by decide +kernel)) ⟨rfl, ?_⟩)
    refine wpAny_loadName_free rfl (lk_cls O) rfl ⟨_, X₁ _ _ hcell, rfl⟩ ?_
    refine wpAny_loadName_local rfl lk_self hns mS ?_
    refine ks_wpAny_isType_cls hC₁ rfl ⟨rfl, ?_⟩
    refine ks_wpAny_call_super hC₁ rfl hx₁ rfl (fun c z => by cases z) (looks_mroIn X₁ IC.slf) (fun h₂ hso k₂ => ?_)
    have X₂ : K.In h₂ := X₁.keeps k₂
    have hx₂ := k₂ _ _ hx₁
    have I₂ : W.InstAt h₂ x (excO C t0) C none := ⟨hx₂, rfl, rfl, trivial⟩
    have hsup := IC.sup
    unfold ks_superIn at hsup
    cases hc : clsIn K C with
    | none =>
      rw [hc] at hsup
      cases hsup
    | some cd =>
    rw [hc] at hsup
    refine kxs_getMethod kxs_ArithmeticError hso (looks_opaque X₂ IC.th) (l₀ := cd.mro) (fun A Q E s k q => wpAny_bind ((looks_clsIn X₂ hc) A _ E s k (wpAny_pure q))) rfl X₂ hsup (I₂.type.andThen (looks_subIn X₂ IC.subA)) (ks_ne X₂ I₂ hc) (by decide +kernel) ?_
    have k₃ : ∀ b o, h₂.get? b = some o → (h₂.push (kxs_mw "ArithmeticError.__init__" x)).get? b = some o := fun b o e => Heap.get?_push_of_some _ e
    have hu : (h₂.push (kxs_mw "ArithmeticError.__init__" x)).get? h₂.objs.size = some (kxs_mw "ArithmeticError.__init__" x) := Heap.get?_push_at rfl rfl
    have kk : ∀ b o, hp.get? b = some o → (h₂.push (kxs_mw "ArithmeticError.__init__" x)).get? b = some o := fun b o e => k₃ _ _ (k₂ _ _ (k _ _ e))
    have hns₃ : (h₂.push (kxs_mw "ArithmeticError.__init__" x)).Ns hp.objs.size (fun y => [(Str.ofString "self", Value.ref x), (fld, v)].reverse.lookup y) := by
      obtain ⟨oL, es, ep, hL, r⟩ := hns
      exact ⟨oL, es, ep, k₃ _ _ (k₂ _ _ hL), r⟩
    have hx₃ := k₃ _ _ hx₂
    have hC₃ := kk _ _ hC
    have hsz : h₂.objs.size < (h₂.push (kxs_mw "ArithmeticError.__init__" x)).objs.size := Heap.lt_size hu
    generalize h₂.push (kxs_mw "ArithmeticError.__init__" x) = h₃ at *
    refine kxs_callWith (i := "ArithmeticError.__init__") (x := x) rfl (evalArgs_plain ?_)
    refine Calls.spliced_cons (wpAny_JoinedStr (pos := p4) (joins_ok (env := callEnv (ksFn "__init__" qual (L2.defArgs st) (iniBody fld v1 v2 rest p1 p2 p3 p4 p5 p6 q1 q2 q3 q4) (iniScope fld) dV kV doc pm an (.ref cda) ct cc) hp.objs.size fI) rfl (lk_fld O) O.f5 mF fv _ Str.empty _ _ hps ?_ hns₃ fun out tk ho => ⟨by rw [sizeLine_eq]; omega, ?_⟩))
    · rw [List.length_cons, List.length_cons]
      show 0 + 1000 * (rest.length + 1 + 1) ≤ 100000
      omega
    refine Calls.spliced_nil ⟨hu, ?_⟩
    -- the library's own rules, over the heap of the call with the error itself left out
    have xL : x ≠ hp.objs.size := Nat.ne_of_lt (Heap.lt_size hx)
    have nK : ∀ a o, K.lookup a = some o → a ∉ [x] := fun a o e z => by
      rw [List.mem_singleton.mp z, hnx] at e
      cases e
    have X₀ : K.In (hideAll hp [x]) := fun a o e => hideAll_get [x] (X a o e) (nK a o e)
    have F₃ : Fr (hideAll hp [x]) hp.objs.size h₃ (fun y => [(Str.ofString "self", Value.ref x), (fld, v)].reverse.lookup y) :=
      ⟨hns₃, fun b o e => kk b o (of_hideAll [x] e), Nat.le_of_eq (hideAll_size [x] hp)⟩
    have L₂ : hp.objs.size < h₂.objs.size := by
      obtain ⟨oL, es, ep, hL, _⟩ := hns
      exact Heap.lt_size (k₂ _ _ hL)
    have ux : h₂.objs.size ≠ x := Nat.ne_of_gt (Nat.lt_trans (Heap.lt_size hx) L₂)
    have uo : (hideAll hp [x]).get? h₂.objs.size = none := by
      cases e : (hideAll hp [x]).get? h₂.objs.size with
      | none => rfl
      | some o => exact absurd (Nat.lt_trans (Heap.lt_size (of_hideAll [x] e)) L₂) (Nat.lt_irrefl _)
    have N₃ : News (hideAll hp [x]) hp.objs.size h₃ [(h₂.objs.size, kxs_mw "ArithmeticError.__init__" x), (x, excObj C t0 none .none)] := fun p hp' => by
      rcases List.mem_cons.mp hp' with rfl | hp'
      · exact ⟨hu, Nat.ne_of_gt L₂, uo⟩
      · obtain rfl := List.mem_singleton.mp hp'
        exact ⟨hx₃, xL, hideAll_none [x] (List.mem_singleton.mpr rfl)⟩
    refine kxs_call F₃ X₀ N₃ F.excBase_ArithmeticError EC.ei List.mem_cons_self (.tail ux (.head fun p z => nomatch z)) (by show 1 ≤ sizeLine; decide) fun t1 h₄ F₄ N₄ lt₄ => ?_
    have X₄ : K.In h₄ := X₀.keeps F₄.keep
    have hx₄ : h₄.get? x = some (excO C t1) := (N₄ (x, excObj C t1 none .none) (by simp)).1
    have tx : t1 ≠ x := Nat.ne_of_gt (lt₄ (x, excObj C t0 none .none) (by simp))
    refine ks_wpAt_execs_cons (ks_wpAt_Assign_Attr (wpAt_of_wpAny (wpAny_Name (wpAny_loadName_local rfl (lk_fld O) F₄.ns mF ?_) O.f5)))
    refine wpAny_Name (wpAny_loadName_local rfl lk_self F₄.ns mS ?_) (by decide +kernel)
    refine set_plain X₄ (ox := excO C t1) (od := none) ⟨hx₄, rfl, rfl, trivial⟩ EC.sa ?_
    have free : takerIn K C fld = some none := by
      rw [takerIn, IC.noF]
      rfl
    refine osa_exc0 (pre := [(t1, _), (h₂.objs.size, _)]) (post := []) F.store_ArithmeticError F₄ N₄ X₄ EC.eo free EC.hdC (fun p z => ?_) (fun p z => nomatch z) (putName_dict _ _ _ _ _ _) rfl (by show 1 ≤ 1000; decide) fun dx h₅ F₅ N₅ lt₅ => ?_
    · rcases List.mem_cons.mp z with rfl | z
      · exact tx
      · obtain rfl := List.mem_singleton.mp z
        exact ux
    refine wpAt_of_wpAny (wpAny_execs_nil ?_)
    have xd : x < dx := lt₅ (x, excObj C t1 none .none) (by simp)
    have ud : h₂.objs.size < dx := lt₅ (h₂.objs.size, kxs_mw "ArithmeticError.__init__" x) (by simp)
    exact hq h₅ _ dx ⟨fun b o hb e => F₅.keep b o (hideAll_get [x] e fun z => hb (List.mem_singleton.mp z)), ⟨t1, (N₅ (x, excObj C t1 (some dx) .none) (by simp)).1⟩, Nat.le_of_lt (Nat.lt_trans L₂ ud), Nat.ne_of_gt xd, one_key (N₅ _ List.mem_cons_self).1⟩
end
end ErrX
end PySem

namespace PySem
namespace ErrX
open PySem.W PySem.Calls PyProof.Rows PySem.HandSPX
/-- a made error with one field -/
structure Made1 (h h' : Heap) (e C d : Addr) (fld : Str) (v : Value) : Prop where
  keep : ∀ b o, h.get? b = some o → h'.get? b = some o
  new : h.objs.size ≤ e
  obj : ∃ oe vs, h'.get? e = some oe ∧ oe.cls = .ref C ∧ oe.dict = some d ∧ oe.data = .fields vs ∧ vs[1]? = some .none
  dbig : h.objs.size ≤ d
  dne : d ≠ e
  ns : h'.Ns1 d (fun y => if y = fld then some v else none)
/-- its __init__ does as it should -/
structure IniOk (prog : Program) (w : World) (K : Frag) (mg : Str → Option Value) (C fI : Addr) (fld : Str) : Prop where
  iC : findIn K (.ref C) "__init__" = some (some (.ref fI))
  tC : typeIn K (.ref fI) = some (.type "function")
  run : ∀ (A : Around) (R : Result → Shared → Prop) (s : Shared) (x t0 : Addr) (v : Value), L2.Mod K mg s.heap → s.heap.get? x = some (excO C t0) → K.lookup x = none → A.depth < recursionLimit → FmtOk v →
    (∀ h' tk dx, IniEnd s.heap h' x C dx fld v → R (.ok (.ret .none)) { s with heap := h', toks := tk }) → codeAny (model prog w) A (.call (.ref fI) ⟨[.ref x, v], []⟩) R s
section
variable {prog : Program} {w : World} {A : Around} {E : Value → Shared → Prop} {R : Result → Shared → Prop} {s : Shared} {K : Frag} {mg : Str → Option Value} {C fI : Addr} {nm fld : Str}
theorem err_made (EC : ErrC K mg nm C) (IO : IniOk prog w K mg C fI fld) {v : Value} (MO : L2.Mod K mg s.heap) (hroom : A.depth + 1 < recursionLimit) (fv : FmtOk v)
    (hq : ∀ h' tk e d, Made1 s.heap h' e C d fld v → R (.ok (.ret (.ref e))) { s with heap := h', toks := tk }) :
    codeAny (model prog w) A (.call (.ref C) ⟨[v], []⟩) R s := by
  have X := MO.kin
  obtain ⟨nm', N', qn, bs, bm, hdct, sn, sub, ab, col, dd, k0, k1, k2, k3, k5, hC, hT⟩ := excInit_of X EC.ei
  obtain ⟨hp, g, dr, tk, os⟩ := s
  have k : ∀ b o, hp.get? b = some o → ((hp.push (kdv_tup [v])).push (excO C hp.objs.size)).get? b = some o := fun b o e => Heap.get?_push_of_some _ (Heap.get?_push_of_some _ e)
  have hget : ((hp.push (kdv_tup [v])).push (excO C hp.objs.size)).get? (hp.objs.size + 1) = some (excO C hp.objs.size) := by heap_get
  have hnx : K.lookup (hp.objs.size + 1) = none := by
    cases e : K.lookup (hp.objs.size + 1) with
    | none => rfl
    | some o =>
      have z : hp.get? (hp.objs.size + 1) = some o := X _ _ e
      exact absurd (Nat.lt_of_succ_lt (Heap.lt_size z)) (Nat.lt_irrefl _)
  have MO' : L2.Mod K mg ((hp.push (kdv_tup [v])).push (excO C hp.objs.size)) := by
    obtain ⟨mb, h1, h2⟩ := MO.blt
    exact ⟨X.keeps k, MO.glob.keeps k, ⟨mb, h1.keeps k, h2⟩, MO.nolimit.keeps k⟩
  refine call_own F.excBase_ArithmeticError hT hC (looks_findIn X IO.iC) (fun self => bind_fn X self IO.tC) (by show 1 ≤ sizeLine; decide) ?_
  refine IO.run _ _ ⟨(hp.push (kdv_tup [v])).push (excO C hp.objs.size), g, dr, tk, os⟩ _ _ _ MO' hget hnx ?_ fv fun h' tk' dx ⟨k', ⟨t1, hx⟩, dn, dne, hns⟩ => ?_
  · show A.depth + 1 < recursionLimit
    exact hroom
  · have old : ∀ b o, hp.get? b = some o → h'.get? b = some o := fun b o e => k' b o (Nat.ne_of_lt (Nat.lt_succ_of_lt (Heap.lt_size e))) (k b o e)
    have z : hp.objs.size + 1 + 1 ≤ dx := by
      first
        | (simpa only [Heap.size_push] using dn)
        | exact dn
        | (have q := dn; rw [Heap.size_push, Heap.size_push] at q; exact q)
    exact ⟨rfl, hq h' tk' (hp.objs.size + 1) dx ⟨old, Nat.le_succ _, ⟨_, _, hx, rfl, rfl, rfl, rfl⟩, Nat.le_trans (Nat.le_trans (Nat.le_succ _) (Nat.le_succ _)) z, dne, hns⟩⟩
end
end ErrX
end PySem
namespace E1
open PySem PySem.Spec PyProof.Rows L2
open PySem.ErrX (ErrC IniOk FmtOk)
/-- a value that is written as a text of at most a thousand signs -/
def VFmt (v : V) : Prop := (∃ y : Str, v = .str y ∧ y.length ≤ 1000) ∨ ∃ i : Int, v = .int i ∧ i.natAbs.log2 < 1920 ∧ (toString i : String).length ≤ 1000
theorem VFmt.ok {v : V} {u : Value} (h : VFmt v) (r : RelV v u) : FmtOk u := by
  rcases h with ⟨y, rfl, hy⟩ | ⟨i, rfl, hi, hy⟩
  · obtain ⟨t, rfl⟩ := (show ∃ t, u = Value.str y t from r)
    exact .inl ⟨y, t, rfl, hy⟩
  · obtain ⟨t, rfl⟩ := (show ∃ t, u = Value.int i t from r)
    exact .inr ⟨i, t, rfl, hi, hy⟩
theorem relO_one {fld : Str} {v : V} {v' : Value} (r : RelV v v') (f : Str) : RelO (List.lookup f [(fld, v)]) (if f = fld then some v' else none) := by
  by_cases hw : f = fld
  · subst hw
    rw [if_pos rfl]
    have q : List.lookup f [(f, v)] = some v := by simp [List.lookup]
    rw [q]
    exact r
  · rw [if_neg hw]
    have qw : (f == fld) = false := by simpa using hw
    have q2 : List.lookup f [(fld, v)] = none := by simp [List.lookup, qw]
    rw [q2]
    trivial
section
variable {X : Cx} {C fI : Addr} {x fld : Str}
/-- X(e), an error with one field -/
def tMkErr (C : Addr) (fld : Str) (ta : TA) : L2.St → Hp → XK → Prop := fun σ H Q => ta σ H fun vs H1 => ∃ v, vs = [v] ∧ VFmt v ∧ ∀ d, H1 d = none → Q (.ref C) (some d) (upd H1 d (.xd [(fld, v)]))
theorem pmk_err {a : Expr} {ta : TA} {p pos : Pos} {k : Nat} (EC : ErrC X.K X.mg x C) (IO : IniOk X.prog X.w X.K X.mg C fI fld) (hr : Room k X.A) (ha : PA X [a] ta) (hg : Gl X x := by rfl) (hdb : (x == ("__debug__" : Str)) = false := by decide)
    (he : starEach (a :: []) X.env = (false, eval a X.env) :: starEach [] X.env := by rfl) (hpl : (backTo pos (starEach [] X.env)).any (·.1) = false := by rfl) :
    PMk X (.Call (.Name x p) [a] [] pos) (tMkErr C fld ta) := by
  intro pins s σ H Q I h
  refine wpAny_Call_Name_kw (ld_glob I hg EC.gC ?_ hdb)
  refine PySem.W.callWith_K (h₀ := X.base) I.ok.mod.kin EC.kC (thn (ha.run pos pins s σ H _ I h) fun us s1 hh => ?_) he hpl
  obtain ⟨vs, H1, I1, r1, v, ev, fv, q1⟩ := hh
  subst ev
  refine ⟨I1.kIn, ?_⟩
  cases r1 with
  | cons rv rn =>
    rename_i v' us'
    cases rn
    show wpAny _ _ (call (.ref C) [v']) _ _ _
    have MO : Mod X.K X.mg s1.heap := by
      obtain ⟨mb, h1, h2⟩ := I1.mod.blt
      exact ⟨I1.kIn, I1.mod.glob.keeps I1.bk, ⟨mb, h1.keeps I1.bk, h2⟩, I1.nolimit⟩
    obtain ⟨hp, g, dr, tk, os⟩ := s1
    refine wpAny_call (PySem.ErrX.err_made EC IO MO (by have := hr.dp; omega) (fv.ok rv) fun h' tk' e d M => ?_)
    show MkP X pins σ Q (.ref e) ⟨h', g, dr, tk', os⟩
    obtain ⟨oe, fv', hoe, hc, hd, hdat, h1⟩ := M.obj
    have hns := M.ns
    obtain ⟨G', g1, g2⟩ := restrict h' fun b => decide (b ≠ e)
    have gk : ∀ b, b ≠ e → G'.get? b = h'.get? b := fun b hb => g1 b (decide_eq_true hb)
    have ge : G'.get? e = none := g2 e (by simp)
    have old : ∀ b o, hp.get? b = some o → G'.get? b = some o := fun b o q => (gk b (Nat.ne_of_lt (Nat.lt_of_lt_of_le (Heap.lt_size q) M.new))).trans (M.keep b o q)
    have ob : ObjOk X.prog X.w (upd H1 d (.xd [(fld, v)])) G' d (.xd [(fld, v)]) :=
      ⟨_, hns.at (fun o q => (gk d M.dne).trans q), fun f => relO_one rv f⟩
    have J : Inv X pins σ (upd H1 d (.xd [(fld, v)])) ⟨G', g, dr, tk', os⟩ := I1.laid (t' := tk') old M.dbig ob
    refine ⟨e, oe, fv', ⟨G', g, dr, tk', os⟩, _, .ref C, some d, rfl, J, fun b o q => ?_, ge, hoe, ⟨hc, hd⟩, hdat, h1, ?_, rfl, I1.bare, raises_own EC.exC EC.tyC, q1 d (I1.hok.fresh M.dbig)⟩
    · by_cases hb : b = e
      · have q' : G'.get? b = some o := q
        rw [hb, ge] at q'; cases q'
      · exact (gk b hb).symm.trans q
    · rw [upd_ne (Ne.symm M.dne)]
      exact I1.hok.fresh M.new
/-- raise X(e) -/
def tRaiseErr (C : Addr) (fld : Str) (W : WX) (ta : TA) : TS := fun _ σ H => tMkErr C fld ta σ H fun cls d H' => W cls d σ H'
theorem ps_raiseErr {a : Expr} {ta : TA} {W : WX} {p pos pos2 : Pos} {k : Nat} (hc : X.calm = true) (EC : ErrC X.K X.mg x C) (IO : IniOk X.prog X.w X.K X.mg C fI fld) (hr : Room k X.A) (tk : Takes X W) (ha : PA X [a] ta) (hg : Gl X x := by rfl) (hdb : (x == ("__debug__" : Str)) = false := by decide)
    (he : starEach (a :: []) X.env = (false, eval a X.env) :: starEach [] X.env := by rfl) (hpl : (backTo pos (starEach [] X.env)).any (·.1) = false := by rfl) :
    PS X (.Raise (some (.Call (.Name x p) [a] [] pos)) none pos2) (tRaiseErr C fld W ta) := ps_raise hc tk (pmk_err EC IO hr ha hg hdb he hpl)
/-- e.f of a caught error -/
theorem ErrC.xf {K : PySem.W.Frag} {mg : Str → Option Value} (EC : ErrC K mg x C) : XfC K C := ⟨EC.ga, EC.gg, EC.exC, EC.hdC⟩
end
end E1

namespace E1
open PySem PySem.Spec PyProof.Rows L2
open PySem.ErrX (ErrC IniOk FmtOk)
/-- isinstance(e, c), e the error that the suite holds, its class an own one -/
def rIsX (K : PySem.W.Frag) (a : Addr) (cls : Value) (d : Option Addr) : List V → Hp → VK → Prop := fun xs H Q => ∃ (D : Addr) (c : V) (cv : Value) (b : Bool), cls = .ref D ∧ ExcC K D ∧ xs = [.ref a, c] ∧ (∀ u, RelV c u → u = cv) ∧
  (∀ dd, d = some dd → ∃ fs, H dd = some (.xd fs)) ∧ PySem.W.kitOne K (.ref D) cv = some b ∧ Q (.bl b) H
theorem call_isX {X : Cx} {a : Addr} {cls : Value} {d : Option Addr} {oe : Obj} {pn : List (Addr × Obj)} (hz : Zc cls d oe) (hf : ∃ vs, oe.data = .fields vs) : CallR (X.suite a ((a, oe) :: pn)) (.builtin "isinstance") (rIsX X.K a cls d) := by
  intro pins s σ H xs us Q I r ⟨D, c, cv, b, hcls, C, hxs, only, hdd, yes, q⟩
  subst hcls hxs
  match d, hz, hdd, us, r with
  | none, hz, _, us, r => exact call_isE C hz hf pins s σ H _ us Q I r ⟨c, cv, b, rfl, only, yes, q⟩
  | some dd, ⟨kind, own⟩, hdd, [x, u], .cons hx (.cons hu .nil) =>
    cases hx
    cases only u hu
    obtain ⟨fs, tracked⟩ := hdd dd rfl
    obtain ⟨m, space, _⟩ := show ObjOk X.prog X.w H s.heap dd (.xd fs) from I.hok dd _ tracked
    obtain ⟨dict, lies, _⟩ := lookIn_ns space
    obtain ⟨parts, hparts⟩ := hf
    have held := (I.pin (a, oe) (by simp)).1
    have inst : PySem.W.InstAt s.heap a oe D (some dict) := by
      refine ⟨held, kind, ?_, ?_⟩
      · obtain ⟨_, _, dat, _⟩ := oe
        dsimp only at hparts ⊢
        rw [hparts]
        rfl
      · simpa [own] using lies
    have known : (PySem.W.clsIn X.K D).isSome = true := Option.isSome_iff_exists.mpr ((PySem.W.any_some C.hd).imp fun _ z => z.1)
    exact PySem.W.kia_one (PySem.W.kitx_exc known C.hg C.hk C.hs C.ha C.hn C.ht C.hm) I.kIn inst yes (fun z => nomatch z) fun tk => ⟨.bl b, H, I.kept (t' := tk) fun _ _ z => z, rfl, q⟩
/-! ### calls of defs that may raise -/
def CalX (P : Program) (w : World) (K : PySem.W.Frag) (mg : Str → Option Value) (base : Heap) (k : Nat) (x : Str) (ps : List Str) (dvs : List V) (sp : Sp) : Prop :=
  ∃ (f : Addr) (fd : FuncData) (ds : List Value), mg x = some (.ref f) ∧ PySem.W.keepIn K (.ref f) = true ∧ Vals dvs ds ∧ Binds K fd ps ds ∧ FnOk P w K mg base (L2.CX P w) k f fd ps sp
theorem pe_calx {X : Cx} {k j : Nat} {x : Str} {ps : List Str} {dvs : List V} {sp : Sp} {e : Expr} {es : List Expr} {t : TA} {p pos : Pos} (c : CalX X.prog X.w X.K X.mg X.base k x ps dvs sp) (hr : Room j X.A) (ha : PA X (e :: es) t) (hle : k ≤ j := by decide) (hg : Gl X x := by rfl)
    (hdb : (x == ("__debug__" : Str)) = false := by decide) (he : starEach (e :: es) X.env = (false, eval e X.env) :: starEach es X.env := by rfl) (hpl : (backTo pos (starEach es X.env)).any (·.1) = false := by rfl) :
    PE X (.Call (.Name x p) (e :: es) [] pos) (tCall sp dvs E0 t) := by
  obtain ⟨f, fd, ds, h1, h2, hd, h3, h4⟩ := c
  exact pe_call h4 (hr.mono hle) hg h1 h2 h3 hd passL ha hdb he hpl
def CalXK (P : Program) (w : World) (K : PySem.W.Frag) (mg : Str → Option Value) (base : Heap) (k : Nat) (x : Str) (ps : List Str) (n : Nat) (ks : List Str) (gV : List V → List V → List V) (sp : Sp) : Prop :=
  ∃ (f : Addr) (fd : FuncData) (g : List Value → List Value → List Value), mg x = some (.ref f) ∧ PySem.W.keepIn K (.ref f) = true ∧ KBn K fd ps n ks g gV ∧ FnOk P w K mg base (L2.CX P w) k f fd ps sp
theorem pe_calkx0 {X : Cx} {k j : Nat} {x : Str} {ps ks : List Str} {gV : List V → List V → List V} {sp : Sp} {kws : List Keyword} {tk : TA} {p pos : Pos} (c : CalXK X.prog X.w X.K X.mg X.base k x ps 0 ks gV sp) (hr : Room j X.A)
    (hkw : PK X kws tk) (hle : k ≤ j := by decide) (hg : Gl X x := by rfl) (hall : (backToKw pos (keywordEach kws X.env)).all (·.1.isSome) = true := by rfl) (hks : (backToKw pos (keywordEach kws X.env)).filterMap (·.1) = ks := by rfl)
    (hdb : (x == ("__debug__" : Str)) = false := by decide)
    (hpl : ((backTo pos (starEach [] X.env)).any (·.1) || (backToKw pos (keywordEach kws X.env)).any (·.1.isNone)) = false := by rfl) :
    PE X (.Call (.Name x p) [] kws pos) (tCallN 0 ks.length sp gV E0 tNil tk) := by
  obtain ⟨f, fd, g, h1, h2, h3, h4⟩ := c
  refine ⟨fun pins s σ H Q I h => ?_⟩
  refine wpAny_Call_Name_kw (ld_glob I hg h1 ?_ hdb)
  refine PySem.W.callWith_KW0 (h₀ := X.base) I.ok.mod.kin h2 hall (thn (hkw.run pos pins s σ H _ I h) fun ws s2 ⟨zs, H2, I2, rz, l1, l2, q2⟩ => ⟨I2.kIn, ?_⟩) hpl
  rw [hks]
  exact run_fnN (vs := []) (us := []) h4 (hr.mono hle) h3 passL I2 .nil rz l1 l2 q2
/-- a call whose error a try around it waits for -/
theorem pe_calxS {X : Cx} {k j : Nat} {x : Str} {ps : List Str} {sp : Sp} {e : Expr} {es : List Expr} {t : TA} {p pos : Pos} {W : WX} (c : CalX X.prog X.w X.K X.mg X.base k x ps [] sp) (hr : Room j X.A) (tk : Takes X W) (ha : PA X (e :: es) t) (hle : k ≤ j := by decide) (hg : Gl X x := by rfl)
    (hdb : (x == ("__debug__" : Str)) = false := by decide) (he : starEach (e :: es) X.env = (false, eval e X.env) :: starEach es X.env := by rfl) (hpl : (backTo pos (starEach es X.env)).any (·.1) = false := by rfl) :
    PE X (.Call (.Name x p) (e :: es) [] pos) (tCallS sp (WE W) t) := by
  obtain ⟨f, fd, ds, h1, h2, hd, h3, h4⟩ := c
  cases hd
  exact pe_callS h4 (hr.mono hle) hg h1 h2 h3 (fun σ => passAt tk σ) ha hdb he hpl
end E1

namespace E1
open PySem PySem.Spec PyProof.Rows L2
/-! ### a def of the text that is called by its name -/
def Cal (P : Program) (w : World) (K : PySem.W.Frag) (mg : Str → Option Value) (base : Heap) (k : Nat) (x : Str) (ps : List Str) (sp : Sp) : Prop :=
  ∃ (f : Addr) (fd : FuncData), mg x = some (.ref f) ∧ PySem.W.keepIn K (.ref f) = true ∧ Binds K fd ps [] ∧ FnOk P w K mg base CX0 k f fd ps sp
theorem pe_cal {X : Cx} {k j : Nat} {x : Str} {ps : List Str} {sp : Sp} {e : Expr} {es : List Expr} {t : TA} {p pos : Pos} (c : Cal X.prog X.w X.K X.mg X.base k x ps sp) (hr : Room j X.A) (ha : PA X (e :: es) t) (hle : k ≤ j := by decide) (hg : Gl X x := by rfl)
    (hdb : (x == ("__debug__" : Str)) = false := by decide) (he : starEach (e :: es) X.env = (false, eval e X.env) :: starEach es X.env := by rfl) (hpl : (backTo pos (starEach es X.env)).any (·.1) = false := by rfl) :
    PE X (.Call (.Name x p) (e :: es) [] pos) (tCall sp [] E0 t) := by
  obtain ⟨f, fd, h1, h2, h3, h4⟩ := c
  exact pe_call h4 (hr.mono hle) hg h1 h2 h3 .nil pass0 ha hdb he hpl
/-! ### heaps -/
def SameBut (a : Addr) (H H' : Hp) : Prop := ∀ b o, b ≠ a → H b = some o → H' b = some o
theorem SameBut.refl (a : Addr) (H : Hp) : SameBut a H H := fun _ _ _ h => h
theorem SameBut.trans {a : Addr} {H H1 H2 : Hp} (x : SameBut a H H1) (y : SameBut a H1 H2) : SameBut a H H2 := fun b o n h => y b o n (x b o n h)
theorem SameBut.of {a : Addr} {H H' : Hp} (s : Same H H') : SameBut a H H' := fun b o _ h => s b o h
theorem SameBut.upd {a : Addr} {H : Hp} {o : HO} : SameBut a H (upd H a o) := fun b _ n h => by
  rw [upd_ne n]
  exact h
theorem same_new {H : Hp} {p : Addr} {o : HO} (h : H p = none) : Same H (upd H p o) := fun b x e => by
  rw [upd_ne (ne_of_none e h)]
  exact e
theorem Same.tup {K : PySem.W.Frag} {H H' : Hp} {a : Addr} {xs : List V} (e : Same H H') (h : SqT K H a xs) : SqT K H' a xs := by
  rcases h with (h | ⟨o, h⟩) | h
  · exact .inl (.inl (e _ _ h))
  · exact .inl (.inr ⟨o, e _ _ h⟩)
  · exact .inr h
theorem a0 {α : Type} {x : α} {l : List α} : atI (x :: l) 0 = some x := atI_nat (j := 0) rfl
theorem a1 {α : Type} {x y : α} {l : List α} : atI (x :: y :: l) 1 = some y := atI_nat (j := 1) rfl
theorem a2 {α : Type} {x y z : α} {l : List α} : atI (x :: y :: z :: l) 2 = some z := atI_nat (j := 2) rfl
theorem toB {p : Prop} [Decidable p] (h : decide p = true) : p := of_decide_eq_true h
theorem toNB {p : Prop} [Decidable p] (h : ¬ decide p = true) : ¬ p := fun z => h (decide_eq_true z)
/-- a well: the digits left, a number that is mixed, how many were mixed (at most c) -/
def WellAt (H : Hp) (a : Addr) (c : Int) : Prop := ∃ x y z : Int, H a = some (.lst [.int x, .int y, .int z]) ∧ 0 ≤ y ∧ y < 2147483647 ∧ 0 ≤ z ∧ z ≤ c
theorem WellAt.mono {H : Hp} {a : Addr} {c d : Int} (h : WellAt H a c) (l : c ≤ d) : WellAt H a d := by
  obtain ⟨x, y, z, e, h1, h2, h3, h4⟩ := h
  exact ⟨x, y, z, e, h1, h2, h3, by omega⟩
theorem WellAt.same {H H' : Hp} {a : Addr} {c : Int} (h : WellAt H a c) (s : Same H H') : WellAt H' a c := by
  obtain ⟨x, y, z, e, h1, h2, h3, h4⟩ := h
  exact ⟨x, y, z, s _ _ e, h1, h2, h3, h4⟩
theorem WellAt.but {H H' : Hp} {a b : Addr} {c : Int} (h : WellAt H a c) (s : SameBut b H H') (n : a ≠ b) : WellAt H' a c := by
  obtain ⟨x, y, z, e, h1, h2, h3, h4⟩ := h
  exact ⟨x, y, z, s _ _ n e, h1, h2, h3, h4⟩
/-! ### promises of the law's helpers -/
def spCell (K : PySem.W.Frag) : Sp := fun vs H Q _ => ∃ (a : Addr) (ns : List Int) (k : Nat), vs = [.ref a, .int k] ∧ SqL K H a (ns.map V.int) ∧ Q (.int (ns.getD k 0)) H
def spWell : Sp := fun vs H Q _ => ∃ c : Int, vs = [.int c] ∧ ∀ p : Addr, H p = none → ∀ H', Same H H' → WellAt H' p 0 → Q (.ref p) H'
/-- a number from 0 to below m; the well has at most one more -/
def spDraw : Sp := fun vs H Q _ => ∃ (a : Addr) (c m : Int), vs = [.ref a, .int m] ∧ WellAt H a c ∧ c ≤ 1000000000 ∧ 0 < m ∧ m.natAbs < 2 ^ 9000 ∧
  ∀ (r : Int) (H' : Hp), 0 ≤ r → r < m → SameBut a H H' → (∀ b, H b = none → H' b = none) → WellAt H' a (c + 1) → Q (.int r) H'
def topS (i : Nat) : Stmt := PySem.Challenge.pw_echobound_k03_seven_manners.main.body.getD i (.Pass ⟨0, 0, 0, 0⟩)
abbrev s_downward : Stmt := topS 6
abbrev s_upward : Stmt := topS 7
abbrev s_inward : Stmt := topS 8
abbrev s_outward : Stmt := topS 9
abbrev s_nearest_greater : Stmt := topS 10
abbrev s_nearest_even : Stmt := topS 11
abbrev s_nearest_far : Stmt := topS 12
abbrev s_is_manner : Stmt := topS 14
abbrev s_rounded : Stmt := topS 15
abbrev s__law_cell_at : Stmt := topS 17
abbrev s__law_well : Stmt := topS 18
abbrev s__law_draw : Stmt := topS 19
abbrev s__law_low : Stmt := topS 20
abbrev s__law_great : Stmt := topS 21
abbrev s__law_value : Stmt := topS 22
abbrev s__law_near : Stmt := topS 23
abbrev s__law_right : Stmt := topS 24
abbrev s__law_refused : Stmt := topS 25
abbrev s_law : Stmt := topS 26
section
variable {P : Program} {w : World} {K : PySem.W.Frag} {mg : Str → Option Value} {base : Heap}
theorem sc__law_cell_at : FnScope ["_law_script", "_law_k"] ["_law_script", "_law_k"] (defScope s__law_cell_at) := ⟨rfl, rfl, rfl, by decide +kernel, rfl, by decide +kernel, by decide +kernel⟩
theorem sc__law_well : FnScope ["_law_cell"] ["_law_cell"] (defScope s__law_well) := ⟨rfl, rfl, rfl, by decide +kernel, rfl, by decide +kernel, by decide +kernel⟩
theorem sc__law_draw : FnScope ["_law_well_here", "_law_many", "_law_found", "_law_number"] ["_law_well_here", "_law_many"] (defScope s__law_draw) := ⟨rfl, rfl, rfl, by decide +kernel, rfl, by decide +kernel, by decide +kernel⟩
theorem ok_cell {f : Addr} {fd : FuncData} {k : Nat} (F : Fun K "_law_cell_at" "_law_cell_at" s__law_cell_at f fd) (zl : mg "len" = none) : FnOk P w K mg base CX0 (k + 1) f fd ["_law_script", "_law_k"] (spCell K) := by
  refine F.ok sc__law_cell_at (fun vs H Q E h => ?_) (fun cdv A outer s H vs Q E hr h => ?_)
  · obtain ⟨a, ns, k, rfl, _⟩ := h
    rfl
  · obtain ⟨a, ns, k, rfl, hS, q⟩ := h
    refine ⟨_, (pss_cons (ps_if (pt_cmpR op_lt (pv 1) (pe_callB call_len_seq (by rfl) zl PySem.boot_len (pa_cons (pv 0) pa_nil)) (nomark _)) (pss_one (ps_ret (pe_ix ix_list (pv 0) (pv 1) (fun _ _ => rfl)))) pss_nil)
      (pss_one (ps_ret pe_int))), ?_⟩
    refine ⟨_, rfl, _, rfl, a, _, rfl, .inl hS, _, _, rfl, rfl, _, rfl, ite2 (fun c => ?_) (fun c => ?_)⟩
    · have hk : k < ns.length := by
        have := toB c
        rw [List.length_map] at this
        omega
      refine ⟨_, rfl, _, rfl, a, _, k, .int (ns.getD k 0), rfl, rfl, hS, atI_nat ?_, q⟩
      rw [List.getElem?_map, List.getElem?_eq_getElem hk, List.getD_eq_getElem?_getD, List.getElem?_eq_getElem hk]
      rfl
    · have hk : ¬ k < ns.length := fun z => by
        have := toNB c
        rw [List.length_map] at this
        omega
      have e : ns.getD k 0 = 0 := by
        rw [List.getD_eq_getElem?_getD, List.getElem?_eq_none (by omega)]
        rfl
      rw [e] at q
      exact q
theorem ok_well {f : Addr} {fd : FuncData} {k : Nat} (F : Fun K "_law_well" "_law_well" s__law_well f fd) (zi : mg "int" = none) : FnOk P w K mg base CX0 (k + 1) f fd ["_law_cell"] spWell := by
  refine F.ok sc__law_well (fun vs H Q E h => ?_) (fun cdv A outer s H vs Q E hr h => ?_)
  · obtain ⟨c, rfl, _⟩ := h
    rfl
  · obtain ⟨c, rfl, q⟩ := h
    refine ⟨_, (pss_one (ps_ret (pe_lst (pa_cons (pe_op op_mul (pv 0) (pe_callTy call_int1 (by rfl) zi (by decide +kernel) (pa_cons (pe_cmpR op_ge (pv 0) (pe_op op_pow pe_int pe_int) (nomark _)) pa_nil))) (pa_cons (pe_op op_mod (pv 0) pe_int) (pa_cons pe_int pa_nil)))))), ?_⟩
    refine ⟨_, rfl, _, rfl, _, _, rfl, rfl, ⟨by decide, by decide, by decide⟩, _, _, rfl, rfl, .inr ⟨_, rfl, _, _, rfl, rfl, .inr ?_, ?_⟩⟩
    · split <;> decide
    · refine ⟨_, rfl, _, _, rfl, rfl, (by show (0 : Int) < 2147483647; decide), (by show 3 ≤ sizeLine; decide), fun p hp => ?_⟩
      exact q p hp _ (same_new hp) ⟨_, _, _, upd_same, Int.emod_nonneg _ (by decide), Int.emod_lt_of_pos _ (by decide), Int.le_refl _, Int.le_refl _⟩
theorem ok_draw {f : Addr} {fd : FuncData} {k : Nat} (F : Fun K "_law_draw" "_law_draw" s__law_draw f fd) : FnOk P w K mg base CX0 (k + 1) f fd ["_law_well_here", "_law_many"] spDraw := by
  refine F.ok sc__law_draw (fun vs H Q E h => ?_) (fun cdv A outer s H vs Q E hr h => ?_)
  · obtain ⟨a, c, m, rfl, _⟩ := h
    rfl
  · obtain ⟨a, c, m, rfl, ⟨x, y, z, hw, y0, y1, z0, z1⟩, hc, m0, m1, q⟩ := h
    have fr : ∀ o b, H b = none → (upd H a o) b = none := fun o b hb => by
      rw [upd_ne (fun e => by rw [e, hw] at hb; cases hb)]
      exact hb
    refine ⟨_, (pss_cons (ps_if (pt_cmpR op_gt (pe_ix ix_list (pv 0) pe_int (fun _ _ => rfl)) pe_int (nomark _)) (pss_cons (ps_set (i := 2) sc__law_draw.nd rfl (.inl rfl) (pe_op op_mod (pe_ix ix_list (pv 0) pe_int (fun _ _ => rfl)) (pv 1)))
      (pss_cons (ps_asg (pe_op op_fdivW (pe_ix ix_list (pv 0) pe_int (fun _ _ => rfl)) (pv 1)) (pg_sub (pv 0) pe_int set_list))
      (pss_one (ps_ret (pv 2))))) pss_nil)
      (pss_cons (ps_asg (pe_op op_add (pe_ix ix_list (pv 0) pe_int (fun _ _ => rfl)) pe_int) (pg_sub (pv 0) pe_int set_list))
      (pss_cons (ps_set (i := 3) sc__law_draw.nd rfl (.inl rfl) (pe_op op_mod (pe_op op_pow (pe_op op_add (pe_op op_add (pe_ix ix_list (pv 0) pe_int (fun _ _ => rfl)) (pe_op op_mul pe_int (pe_ix ix_list (pv 0) pe_int (fun _ _ => rfl)))) pe_int) pe_int) pe_int))
      (pss_cons (ps_set (i := 3) sc__law_draw.nd rfl (.inl rfl) (pe_op op_mod (pe_op op_mul (pv 3) (pe_op op_add (pe_op op_fdiv (pv 3) pe_int) pe_int)) pe_int))
      (pss_one (ps_ret (pe_op op_mod (pe_op op_mod (pe_op op_mul (pv 3) (pe_op op_add (pe_op op_fdiv (pv 3) pe_int) pe_int)) pe_int) (pv 1)))))))), ?_⟩
    refine ⟨_, rfl, a, _, 0, .int x, rfl, rfl, SqL.of hw, a0, x, 0, rfl, rfl, _, rfl, ite2 (fun c => ?_) (fun c => ?_)⟩
    · refine ⟨_, rfl, a, _, 0, .int x, rfl, rfl, SqL.of hw, a0, _, rfl, x, m, rfl, rfl, m0, ?_⟩
      refine ⟨_, rfl, a, _, 0, .int x, rfl, rfl, SqL.of hw, a0, _, rfl, x, m, rfl, rfl, wide_div m0 m1 (by decide) (Nat.le_refl _), _, rfl, a, _, 0, 0, rfl, rfl, hw, rfl, ?_⟩
      refine ⟨_, rfl, q _ _ (Int.emod_nonneg _ (by omega)) (Int.emod_lt_of_pos _ m0) SameBut.upd (fr _) ⟨_, _, _, upd_same, y0, y1, z0, by omega⟩⟩
    · refine ⟨_, rfl, a, _, 2, .int z, rfl, rfl, SqL.of hw, a2, z, 1, rfl, rfl, _, rfl, a, _, 2, 2, rfl, rfl, hw, rfl, ?_⟩
      have hw2 : (upd H a (.lst [V.int x, V.int y, V.int (z + 1)])) a = some (.lst [V.int x, V.int y, V.int (z + 1)]) := upd_same
      have n5 : 0 ≤ y + 7919 * (z + 1) + 1 ∧ y + 7919 * (z + 1) + 1 < 18446744073709551616 := by omega
      refine ⟨_, rfl, a, _, 1, .int y, rfl, rfl, SqL.of hw2, a1, _, rfl, a, _, 2, .int (z + 1), rfl, rfl, SqL.of hw2, a2, _, _, rfl, rfl, .inl ⟨by decide, by decide⟩, _, _, rfl, rfl, _, _, rfl, rfl, _, _, rfl, rfl, ⟨by decide, by decide, ?_⟩, _, _, rfl, rfl, (by show (0 : Int) < 2147483647; decide), ?_⟩
      · show (y + 7919 * (z + 1) + 1).natAbs < 18446744073709551616
        omega
      · generalize hn : (y + 7919 * (z + 1) + 1) ^ (5 : Int).toNat % 2147483647 = n
        have n0 : 0 ≤ n := by rw [← hn]; exact Int.emod_nonneg _ (by decide)
        have n1 : n < 2147483647 := by rw [← hn]; exact Int.emod_lt_of_pos _ (by decide)
        refine ⟨_, rfl, _, rfl, _, _, rfl, rfl, ⟨by decide, by decide⟩, _, _, rfl, rfl, _, _, rfl, rfl, .inl ⟨by omega, by omega⟩, _, _, rfl, rfl, (by show (0 : Int) < 2147483629; decide), ?_⟩
        generalize hm : n * (n / 1009 + 69621) % 2147483629 = u
        have u0 : 0 ≤ u := by rw [← hm]; exact Int.emod_nonneg _ (by decide)
        have u1 : u < 2147483629 := by rw [← hm]; exact Int.emod_lt_of_pos _ (by decide)
        refine ⟨_, rfl, _, rfl, _, _, rfl, rfl, ⟨by decide, by decide⟩, _, _, rfl, rfl, _, _, rfl, rfl, .inl ⟨by omega, by omega⟩, _, _, rfl, rfl, (by show (0 : Int) < 2147483587; decide), _, rfl, _, _, rfl, rfl, m0, ?_⟩
        exact q _ _ (Int.emod_nonneg _ (by omega)) (Int.emod_lt_of_pos _ m0) SameBut.upd (fr _) ⟨_, _, _, upd_same, y0, y1, by omega, by omega⟩
end
end E1

namespace E1
open PySem PySem.Spec PyProof.Rows L2

def CalD (P : Program) (w : World) (K : PySem.W.Frag) (mg : Str → Option Value) (base : Heap) (k : Nat) (x : Str) (ps : List Str) (dvs : List V) (sp : Sp) : Prop :=
  ∃ (f : Addr) (fd : FuncData) (ds : List Value), mg x = some (.ref f) ∧ PySem.W.keepIn K (.ref f) = true ∧ Vals dvs ds ∧ Binds K fd ps ds ∧ FnOk P w K mg base CX0 k f fd ps sp
theorem pe_cald {X : Cx} {k j : Nat} {x : Str} {ps : List Str} {dvs : List V} {sp : Sp} {e : Expr} {es : List Expr} {t : TA} {p pos : Pos} (c : CalD X.prog X.w X.K X.mg X.base k x ps dvs sp) (hr : Room j X.A) (ha : PA X (e :: es) t) (hle : k ≤ j := by decide) (hg : Gl X x := by rfl)
    (hdb : (x == ("__debug__" : Str)) = false := by decide) (he : starEach (e :: es) X.env = (false, eval e X.env) :: starEach es X.env := by rfl) (hpl : (backTo pos (starEach es X.env)).any (·.1) = false := by rfl) :
    PE X (.Call (.Name x p) (e :: es) [] pos) (tCall sp dvs E0 t) := by
  obtain ⟨f, fd, ds, h1, h2, hd, h3, h4⟩ := c
  exact pe_call h4 (hr.mono hle) hg h1 h2 h3 hd pass0 ha hdb he hpl
def CalK (P : Program) (w : World) (K : PySem.W.Frag) (mg : Str → Option Value) (base : Heap) (k : Nat) (x : Str) (ps : List Str) (n : Nat) (ks : List Str) (gV : List V → List V → List V) (sp : Sp) : Prop :=
  ∃ (f : Addr) (fd : FuncData) (g : List Value → List Value → List Value), mg x = some (.ref f) ∧ PySem.W.keepIn K (.ref f) = true ∧ KBn K fd ps n ks g gV ∧ FnOk P w K mg base CX0 k f fd ps sp
theorem pe_calk {X : Cx} {k j n : Nat} {x : Str} {ps ks : List Str} {gV : List V → List V → List V} {sp : Sp} {e : Expr} {es : List Expr} {kws : List Keyword} {t tk : TA} {p pos : Pos} (c : CalK X.prog X.w X.K X.mg X.base k x ps n ks gV sp) (hr : Room j X.A)
    (ha : PA X (e :: es) t) (hkw : PK X kws tk) (hle : k ≤ j := by decide) (hg : Gl X x := by rfl) (hall : (backToKw pos (keywordEach kws X.env)).all (·.1.isSome) = true := by rfl) (hks : (backToKw pos (keywordEach kws X.env)).filterMap (·.1) = ks := by rfl)
    (hdb : (x == ("__debug__" : Str)) = false := by decide) (he : starEach (e :: es) X.env = (false, eval e X.env) :: starEach es X.env := by rfl)
    (hpl : ((backTo pos (starEach (e :: es) X.env)).any (·.1) || (backToKw pos (keywordEach kws X.env)).any (·.1.isNone)) = false := by rfl) :
    PE X (.Call (.Name x p) (e :: es) kws pos) (tCallN n ks.length sp gV E0 t tk) := by
  obtain ⟨f, fd, g, h1, h2, h3, h4⟩ := c
  exact pe_callN h4 (hr.mono hle) hg h1 h2 h3 pass0 ha hkw hall hks hdb he hpl
theorem pe_calk0 {X : Cx} {k j : Nat} {x : Str} {ps ks : List Str} {gV : List V → List V → List V} {sp : Sp} {kws : List Keyword} {tk : TA} {p pos : Pos} (c : CalK X.prog X.w X.K X.mg X.base k x ps 0 ks gV sp) (hr : Room j X.A)
    (hkw : PK X kws tk) (hle : k ≤ j := by decide) (hg : Gl X x := by rfl) (hall : (backToKw pos (keywordEach kws X.env)).all (·.1.isSome) = true := by rfl) (hks : (backToKw pos (keywordEach kws X.env)).filterMap (·.1) = ks := by rfl)
    (hdb : (x == ("__debug__" : Str)) = false := by decide)
    (hpl : ((backTo pos (starEach [] X.env)).any (·.1) || (backToKw pos (keywordEach kws X.env)).any (·.1.isNone)) = false := by rfl) :
    PE X (.Call (.Name x p) [] kws pos) (tCallN 0 ks.length sp gV E0 tNil tk) := by
  obtain ⟨f, fd, g, h1, h2, h3, h4⟩ := c
  refine ⟨fun pins s σ H Q I h => ?_⟩
  refine wpAny_Call_Name_kw (ld_glob I hg h1 ?_ hdb)
  refine PySem.W.callWith_KW0 (h₀ := X.base) I.ok.mod.kin h2 hall (thn (hkw.run pos pins s σ H _ I h) fun ws s2 ⟨zs, H2, I2, rz, l1, l2, q2⟩ => ⟨I2.kIn, ?_⟩) hpl
  rw [hks]
  exact run_fnN (vs := []) (us := []) h4 (hr.mono hle) h3 pass0 I2 .nil rz l1 l2 q2
/-- a class handed to isinstance -/
theorem isiB {K : PySem.W.Frag} {H : Hp} {x : V} {a b : String} {r : Bool} {Q : VK} (ty : TyX K H x (.type a)) (k : kitB a b = some r) (q : Q (.bl r) H) : rIsi K [x, .ty b] H Q :=
  ⟨x, .ty b, .type a, .type b, r, rfl, .ty _, ty, kit_ty k, q⟩
/-- whether a thing is a whole number -/
def WholeIs (K : PySem.W.Frag) (H : Hp) (x : V) (b : Bool) : Prop := (∃ i, x = .int i ∧ b = true) ∨ (∃ c, x = .bl c ∧ b = false) ∨ (b = false ∧ ∃ t : String, TyX K H x (.type t) ∧ kitB t "int" = some false)
theorem WholeIs.int {K : PySem.W.Frag} {H : Hp} (i : Int) : WholeIs K H (.int i) true := .inl ⟨i, rfl, rfl⟩
def spWhole (K : PySem.W.Frag) : Sp := fun vs H Q _ => ∃ (x : V) (b : Bool), vs = [x] ∧ WholeIs K H x b ∧ Q (.bl b) H
/-! ### the mathematics of fractions in lowest terms -/
def gI (t b : Int) : Int := (Int.gcd t b : Nat)
def lowT (t b : Int) : Int := (if b < 0 then -t else t) / gI t b
def lowB (t b : Int) : Int := (if b < 0 then -b else b) / gI t b
theorem gI_neg (t b : Int) : gI (-t) (-b) = gI t b := by
  unfold gI
  rw [Int.neg_gcd, Int.gcd_neg]
theorem gI_pos {t b : Int} (h : b ≠ 0) : 0 < gI t b := by
  have : 0 < Int.gcd t b := Int.gcd_pos_of_ne_zero_right t h
  unfold gI
  omega
theorem gI_le {t b : Int} (h : b ≠ 0) : (gI t b).natAbs ≤ b.natAbs := by
  have d : Int.gcd t b ∣ b.natAbs := Nat.gcd_dvd_right t.natAbs b.natAbs
  have := Nat.le_of_dvd (by omega) d
  unfold gI
  omega
def spShared : Sp := fun vs H Q _ => ∃ t b : Int, vs = [.int t, .int b] ∧ 0 ≤ b ∧ Q (.int (gI t b)) H
def spLow : Sp := fun vs H Q _ => ∃ t b : Int, vs = [.int t, .int b] ∧ b ≠ 0 ∧ b.natAbs < 2 ^ 4000 ∧ ∀ p, H p = none → Q (.ref p) (upd H p (.tup [.int (lowT t b), .int (lowB t b)]))
/-- two fractions at two places; the tops and bottoms told by f and d -/
def spTwo (K : PySem.W.Frag) (pre : Int → Int → Int → Int → Prop) (f d : Int → Int → Int → Int → Int) : Sp := fun vs H Q _ => ∃ (a c : Addr) (t u v x : Int), vs = [.ref a, .ref c] ∧ SqT K H a [.int t, .int u] ∧ SqT K H c [.int v, .int x] ∧
  pre t u v x ∧ 0 < u ∧ 0 < x ∧ t.natAbs < 2 ^ 1900 ∧ u.natAbs < 2 ^ 1900 ∧ v.natAbs < 2 ^ 1900 ∧ x.natAbs < 2 ^ 1900 ∧ ∀ p, H p = none → Q (.ref p) (upd H p (.tup [.int (lowT (f t u v x) (d t u v x)), .int (lowB (f t u v x) (d t u v x))]))
def spUnder (K : PySem.W.Frag) : Sp := fun vs H Q _ => ∃ (a c : Addr) (t u v x : Int), vs = [.ref a, .ref c] ∧ SqT K H a [.int t, .int u] ∧ SqT K H c [.int v, .int x] ∧
  t.natAbs < 2 ^ 1900 ∧ u.natAbs < 2 ^ 1900 ∧ v.natAbs < 2 ^ 1900 ∧ x.natAbs < 2 ^ 1900 ∧ Q (.bl (decide (t * x < v * u))) H
def absI (t : Int) : Int := if t < 0 then -t else t
def spSize (K : PySem.W.Frag) : Sp := fun vs H Q _ => ∃ (a : Addr) (t u : Int), vs = [.ref a] ∧ SqT K H a [.int t, .int u] ∧ ∀ p, H p = none → Q (.ref p) (upd H p (.tup [.int (absI t), .int u]))
def twoT (m : Int) : Int := if m < 0 then 1 else 2 ^ m.toNat
def twoB (m : Int) : Int := if m < 0 then 2 ^ (-m).toNat else 1
def spTwoTo : Sp := fun vs H Q _ => ∃ m : Int, vs = [.int m] ∧ -400 ≤ m ∧ m ≤ 400 ∧ ∀ p, H p = none → Q (.ref p) (upd H p (.tup [.int (twoT m), .int (twoB m)]))
def spIsFrac : Sp := fun vs H Q _ => ∃ (a : Addr) (t u : Int), vs = [.ref a] ∧ H a = some (.tup [.int t, .int u]) ∧ 1 ≤ u ∧ Q (.bl (decide (gI t u = 1))) H
theorem up {x : Nat} {a b : Nat} (h : x < 2 ^ a) (l : a ≤ b) : x < 2 ^ b := Nat.lt_of_lt_of_le h (Nat.pow_le_pow_right (by decide) l)
theorem up2 {x y : Nat} {a b : Nat} (h : x ≤ y) (h2 : y < 2 ^ a) (l : a ≤ b) : x < 2 ^ b := Nat.lt_of_le_of_lt h (up h2 l)
theorem same_but {H H1 H2 : Hp} {p : Addr} (s : Same H H1) (b : SameBut p H1 H2) (hp : H p = none) : Same H H2 := fun a o e => b a o (ne_of_none e hp) (s a o e)
structure Zs (mg : Str → Option Value) : Prop where
  isinstance : mg "isinstance" = none
  str : mg "str" = none
  len : mg "len" = none
  int : mg "int" = none
  abs : mg "abs" = none
  range : mg "range" = none
  bool : mg "bool" = none
/-! ### the seven manners -/
inductive Mn where
  | down | up | inn | out | half | even | far
def Mn.str : Mn → Str
  | .down => "down"
  | .up => "up"
  | .inn => "in"
  | .out => "out"
  | .half => "half"
  | .even => "even"
  | .far => "far"
def fDown (t b : Int) : Int := t / b
def fUp (t b : Int) : Int := -(-t / b)
def fHalf (t b : Int) : Int := (2 * t + b) / (2 * b)
def fEven (t b : Int) : Int := if 2 * (fHalf t b * b - t) = b ∧ fHalf t b % 2 ≠ 0 then fHalf t b - 1 else fHalf t b
def fFar (t b : Int) : Int := if t > 0 then fHalf t b else -(fHalf (-t) b)
def fIn (t b : Int) : Int := if t > 0 then fDown t b else fUp t b
def fOut (t b : Int) : Int := if t > 0 then fUp t b else fDown t b
def Mn.f : Mn → Int → Int → Int
  | .down => fDown
  | .up => fUp
  | .inn => fIn
  | .out => fOut
  | .half => fHalf
  | .even => fEven
  | .far => fFar
def lawR (m : Mn) (t b : Int) : Int :=
  match m with
  | .down => t / b
  | .up => if t % b = 0 then t / b else t / b + 1
  | .inn => if t % b = 0 then t / b else t / b + (if t < 0 then 1 else 0)
  | .out => if t % b = 0 then t / b else t / b + (if t > 0 then 1 else 0)
  | .half => if 2 * (t % b) < b then t / b else t / b + 1
  | .even => if 2 * (t % b) < b then t / b else if b < 2 * (t % b) then t / b + 1 else t / b + t / b % 2
  | .far => if 2 * (t % b) < b then t / b else if b < 2 * (t % b) then t / b + 1 else t / b + (if t > 0 then 1 else 0)
theorem div_is {t b q : Int} (hb : 0 < b) (h1 : q * b ≤ t) (h2 : t < q * b + b) : t / b = q := by
  have a1 : q ≤ t / b := Int.le_ediv_of_mul_le hb h1
  have a2 : t / b < q + 1 := Int.ediv_lt_of_lt_mul hb (by rw [Int.add_mul, Int.one_mul]; exact h2)
  omega
theorem dm (t : Int) {b : Int} (hb : 0 < b) : t = t / b * b + t % b ∧ 0 ≤ t % b ∧ t % b < b := by
  refine ⟨?_, Int.emod_nonneg _ (by omega), Int.emod_lt_of_pos _ hb⟩
  have := Int.mul_ediv_add_emod t b
  rw [Int.mul_comm] at this
  omega
theorem fUp_is {t b : Int} (hb : 0 < b) : fUp t b = if t % b = 0 then t / b else t / b + 1 := by
  obtain ⟨e, r0, r1⟩ := dm t hb
  unfold fUp
  generalize t / b = q at *
  generalize t % b = r at *
  split
  · rename_i h
    have := div_is (t := -t) (q := -q) hb (by rw [Int.neg_mul]; omega) (by rw [Int.neg_mul]; omega)
    rw [this]
    omega
  · rename_i h
    have := div_is (t := -t) (q := -q - 1) hb (by rw [Int.sub_mul, Int.neg_mul, Int.one_mul]; omega) (by rw [Int.sub_mul, Int.neg_mul, Int.one_mul]; omega)
    rw [this]
    omega
theorem fHalf_is {t b : Int} (hb : 0 < b) : fHalf t b = if 2 * (t % b) < b then t / b else t / b + 1 := by
  obtain ⟨e, r0, r1⟩ := dm t hb
  unfold fHalf
  generalize t / b = q at *
  generalize t % b = r at *
  have e2 : q * (2 * b) = 2 * (q * b) := Int.mul_left_comm q 2 b
  split
  · rename_i h
    exact div_is (by omega) (by rw [e2]; omega) (by rw [e2]; omega)
  · rename_i h
    exact div_is (by omega) (by rw [Int.add_mul, e2, Int.one_mul]; omega) (by rw [Int.add_mul, e2, Int.one_mul]; omega)
theorem fHalf_neg {t b : Int} (hb : 0 < b) : -(fHalf (-t) b) = if b < 2 * (t % b) then t / b + 1 else t / b := by
  obtain ⟨e, r0, r1⟩ := dm t hb
  unfold fHalf
  generalize t / b = q at *
  generalize t % b = r at *
  have e2 : q * (2 * b) = 2 * (q * b) := Int.mul_left_comm q 2 b
  split
  · rename_i h
    have := div_is (t := 2 * -t + b) (b := 2 * b) (q := -q - 1) (by omega) (by rw [Int.sub_mul, Int.neg_mul, e2, Int.one_mul]; omega) (by rw [Int.sub_mul, Int.neg_mul, e2, Int.one_mul]; omega)
    rw [this]
    omega
  · rename_i h
    have := div_is (t := 2 * -t + b) (b := 2 * b) (q := -q) (by omega) (by rw [Int.neg_mul, e2]; omega) (by rw [Int.neg_mul, e2]; omega)
    rw [this]
    omega
theorem fEven_is {t b : Int} (hb : 0 < b) : fEven t b = lawR .even t b := by
  obtain ⟨e, r0, r1⟩ := dm t hb
  unfold fEven
  rw [fHalf_is hb]
  show _ = if 2 * (t % b) < b then t / b else if b < 2 * (t % b) then t / b + 1 else t / b + t / b % 2
  generalize t / b = q at *
  generalize t % b = r at *
  by_cases h : 2 * r < b
  · rw [if_pos h, if_pos h, if_neg (by intro z; omega)]
  · rw [if_neg h, if_neg h, Int.add_mul, Int.one_mul]
    by_cases h2 : b < 2 * r
    · rw [if_pos h2, if_neg (by intro z; omega)]
    · rw [if_neg h2]
      by_cases h3 : (q + 1) % 2 ≠ 0
      · rw [if_pos ⟨by omega, h3⟩]
        omega
      · rw [if_neg (fun z => h3 z.2)]
        omega
theorem f_lawR (m : Mn) {t b : Int} (hb : 0 < b) : m.f t b = lawR m t b := by
  obtain ⟨e, r0, r1⟩ := dm t hb
  cases m with
  | down => rfl
  | up => exact fUp_is hb
  | inn =>
    show fIn t b = if t % b = 0 then t / b else t / b + (if t < 0 then 1 else 0)
    unfold fIn fDown
    rw [fUp_is hb]
    by_cases h : t > 0
    · rw [if_pos h, if_neg (show ¬ t < 0 by omega)]
      split <;> omega
    · rw [if_neg h]
      by_cases h2 : t < 0
      · rw [if_pos h2]
      · have h3 : t = 0 := by omega
        rw [if_neg h2, h3]
        simp
  | out =>
    show fOut t b = if t % b = 0 then t / b else t / b + (if t > 0 then 1 else 0)
    unfold fOut fDown
    rw [fUp_is hb]
    by_cases h : t > 0
    · rw [if_pos h, if_pos h]
    · rw [if_neg h, if_neg h]
      split <;> omega
  | half => exact fHalf_is hb
  | even => exact fEven_is hb
  | far =>
    show fFar t b = if 2 * (t % b) < b then t / b else if b < 2 * (t % b) then t / b + 1 else t / b + (if t > 0 then 1 else 0)
    unfold fFar
    rw [fHalf_is hb, fHalf_neg hb]
    by_cases h : t > 0
    · rw [if_pos h, if_pos h]
      split
      · rfl
      · split <;> rfl
    · rw [if_neg h, if_neg h]
      by_cases h2 : 2 * (t % b) < b
      · rw [if_pos h2, if_neg (show ¬ b < 2 * (t % b) by omega)]
      · rw [if_neg h2]
        split <;> omega
theorem lt_g {x y g : Int} (hg : 0 < g) : x * g < y * g ↔ x < y := ⟨fun h => Int.lt_of_mul_lt_mul_right h (Int.le_of_lt hg), fun h => Int.mul_lt_mul_of_pos_right h hg⟩
theorem lawR_mul (m : Mn) {t b g : Int} (hb : 0 < b) (hg : 0 < g) : lawR m (t * g) (b * g) = lawR m t b := by
  have e1 : t * g / (b * g) = t / b := Int.mul_ediv_mul_of_pos_left _ _ hg
  have e2 : t * g % (b * g) = t % b * g := by
    rw [Int.mul_comm t g, Int.mul_comm b g, Int.mul_emod_mul_of_pos _ _ hg, Int.mul_comm]
  have c0 : t % b * g = 0 ↔ t % b = 0 := by
    constructor
    · intro h
      rcases Int.mul_eq_zero.mp h with h | h
      · exact h
      · omega
    · intro h
      rw [h, Int.zero_mul]
  have c1 : t * g < 0 ↔ t < 0 := by
    have := lt_g (x := t) (y := 0) hg
    rw [Int.zero_mul] at this
    exact this
  have c2 : t * g > 0 ↔ t > 0 := by
    have := lt_g (x := 0) (y := t) hg
    rw [Int.zero_mul] at this
    exact this
  have c3 : 2 * (t % b * g) < b * g ↔ 2 * (t % b) < b := by
    rw [← Int.mul_assoc]
    exact lt_g hg
  have c4 : b * g < 2 * (t % b * g) ↔ b < 2 * (t % b) := by
    rw [← Int.mul_assoc]
    exact lt_g hg
  cases m <;> simp only [lawR, e1, e2, c0, c1, c2, c3, c4]
theorem lawR_eq (m : Mn) {t b x y : Int} (hb : 0 < b) (hy : 0 < y) (h : x * b = t * y) : lawR m x y = lawR m t b := by
  rw [← lawR_mul m hy hb, h, Int.mul_comm y b, lawR_mul m hb hy]
/-- how far off -/
theorem lawR_off (m : Mn) {t b : Int} (hb : 0 < b) : -b ≤ lawR m t b * b - t ∧ lawR m t b * b - t ≤ b := by
  obtain ⟨e, r0, r1⟩ := dm t hb
  have key : ∀ q' : Int, (q' = t / b ∨ q' = t / b + 1) → -b ≤ q' * b - t ∧ q' * b - t ≤ b := fun q' h => by
    generalize t / b = q at *
    generalize t % b = r at *
    rcases h with rfl | rfl
    · omega
    · rw [Int.add_mul, Int.one_mul]
      omega
  refine key _ ?_
  clear key
  cases m <;> simp only [lawR] <;> (generalize t / b = q at *) <;> (repeat' split) <;> (first | omega | exact .inl trivial)
theorem lawR_near {m : Mn} {t b : Int} (hb : 0 < b) (hm : m = .half ∨ m = .even ∨ m = .far) : -b ≤ 2 * (lawR m t b * b - t) ∧ 2 * (lawR m t b * b - t) ≤ b := by
  obtain ⟨e, r0, r1⟩ := dm t hb
  have key : ∀ q' : Int, ((q' = t / b ∧ 2 * (t % b) ≤ b) ∨ (q' = t / b + 1 ∧ b ≤ 2 * (t % b))) → -b ≤ 2 * (q' * b - t) ∧ 2 * (q' * b - t) ≤ b := fun q' h => by
    generalize t / b = q at *
    generalize t % b = r at *
    rcases h with ⟨rfl, h⟩ | ⟨rfl, h⟩
    · omega
    · rw [Int.add_mul, Int.one_mul]
      omega
  refine key _ ?_
  clear key
  rcases hm with rfl | rfl | rfl <;> simp only [lawR] <;> (generalize t / b = q at *) <;> (repeat' split) <;> omega
theorem ab_nonneg {x : Int} (h : 0 ≤ x) : (if x < 0 then -x else x) = x := if_neg (by omega)
theorem ab_nonpos {x : Int} (h : x ≤ 0) : (if x < 0 then -x else x) = -x := by split <;> omega
theorem r_down {t b : Int} (hb : 0 < b) : fDown t b * b ≤ t ∧ t < (fDown t b + 1) * b := by
  obtain ⟨e, r0, r1⟩ := dm t hb
  unfold fDown
  rw [Int.add_mul, Int.one_mul]
  omega
theorem r_up {t b : Int} (hb : 0 < b) : (fUp t b - 1) * b < t ∧ t ≤ fUp t b * b := by
  obtain ⟨e, r0, r1⟩ := dm (-t) hb
  unfold fUp
  rw [Int.sub_mul, Int.one_mul, Int.neg_mul]
  omega
theorem fDown_pos {t b : Int} (hb : 0 < b) (ht : 0 ≤ t) : 0 ≤ fDown t b := Int.ediv_nonneg ht (by omega)
theorem fUp_nonpos {t b : Int} (hb : 0 < b) (ht : t ≤ 0) : fUp t b ≤ 0 := by
  have : 0 ≤ -t / b := Int.ediv_nonneg (by omega) (by omega)
  unfold fUp
  omega
theorem fUp_pos {t b : Int} (hb : 0 < b) (ht : 0 < t) : 0 < fUp t b := by
  have h := (r_up (t := t) hb).2
  refine Int.not_le.mp fun z => ?_
  have := Int.mul_le_mul_of_nonneg_right z (Int.le_of_lt hb)
  rw [Int.zero_mul] at this
  omega
theorem fDown_nonpos {t b : Int} (hb : 0 < b) (ht : t ≤ 0) : fDown t b ≤ 0 := by
  have h := (r_down (t := t) hb).1
  refine Int.not_lt.mp fun z => ?_
  have h1 : 1 * b ≤ fDown t b * b := Int.mul_le_mul_of_nonneg_right z (Int.le_of_lt hb)
  omega
theorem mul_np {x y : Int} (hx : x ≤ 0) (hy : y ≤ 0) : x * y ≥ 0 := Int.mul_nonneg_of_nonpos_of_nonpos hx hy
def aI (x : Int) : Int := if x < 0 then -x else x
theorem r_in {t b : Int} (hb : 0 < b) : aI (fIn t b) * b ≤ aI t ∧ aI t < (aI (fIn t b) + 1) * b ∧ fIn t b * t ≥ 0 := by
  unfold fIn aI
  by_cases ht : t > 0
  · have h0 := fDown_pos (t := t) hb (by omega)
    have h1 := r_down (t := t) hb
    rw [if_pos ht, ab_nonneg h0, ab_nonneg (show 0 ≤ t by omega)]
    exact ⟨h1.1, h1.2, Int.mul_nonneg h0 (by omega)⟩
  · have h0 := fUp_nonpos (t := t) hb (by omega)
    have h1 := r_up (t := t) hb
    rw [if_neg ht, ab_nonpos h0, ab_nonpos (show t ≤ 0 by omega)]
    rw [Int.sub_mul, Int.one_mul] at h1
    refine ⟨?_, ?_, mul_np h0 (by omega)⟩
    · rw [Int.neg_mul]
      omega
    · rw [Int.add_mul, Int.neg_mul, Int.one_mul]
      omega
theorem r_out {t b : Int} (hb : 0 < b) : (aI (fOut t b) - 1) * b < aI t ∧ aI t ≤ aI (fOut t b) * b ∧ fOut t b * t ≥ 0 := by
  unfold fOut aI
  by_cases ht : t > 0
  · have h0 := fUp_pos (t := t) hb ht
    have h1 := r_up (t := t) hb
    rw [if_pos ht, ab_nonneg (show 0 ≤ fUp t b by omega), ab_nonneg (show 0 ≤ t by omega)]
    exact ⟨h1.1, h1.2, Int.mul_nonneg (by omega) (by omega)⟩
  · have h0 := fDown_nonpos (t := t) hb (by omega)
    have h1 := r_down (t := t) hb
    rw [if_neg ht, ab_nonpos h0, ab_nonpos (show t ≤ 0 by omega)]
    rw [Int.add_mul, Int.one_mul] at h1
    refine ⟨?_, ?_, mul_np h0 (by omega)⟩
    · rw [Int.sub_mul, Int.neg_mul, Int.one_mul]
      omega
    · rw [Int.neg_mul]
      omega
theorem near_aux {t b q r f : Int} (hb : 0 < b) (e : t = q * b + r) (r0 : 0 ≤ r) (r1 : r < b) (h : (f = q ∧ 2 * r ≤ b) ∨ (f = q + 1 ∧ b ≤ 2 * r)) : aI (2 * (t - f * b)) ≤ b ∧ (aI (2 * (t - f * b)) = b → 2 * r = b) := by
  unfold aI
  rcases h with ⟨rfl, h⟩ | ⟨rfl, h⟩
  · generalize f * b = x at *
    exact ⟨by split <;> omega, fun z => by split at z <;> omega⟩
  · rw [Int.add_mul, Int.one_mul]
    generalize q * b = x at *
    exact ⟨by split <;> omega, fun z => by split at z <;> omega⟩
/-- a nearest one: how far off, and what is so halfway -/
theorem r_near {t b : Int} (hb : 0 < b) (m : Mn) (hm : m = .half ∨ m = .even ∨ m = .far) :
    aI (2 * (t - m.f t b * b)) ≤ b ∧ (aI (2 * (t - m.f t b * b)) = b → (m = .half → 2 * (t - m.f t b * b) < 0) ∧ (m = .even → m.f t b % 2 = 0) ∧ (m = .far → aI (m.f t b) * b > aI t)) := by
  obtain ⟨e, r0, r1⟩ := dm t hb
  have tq : 0 < t → 0 ≤ t / b := fun h => Int.ediv_nonneg (by omega) (by omega)
  have tn : t < 0 → t / b ≤ 0 := fun h => fDown_nonpos (t := t) hb (by omega)
  have c : (lawR m t b = t / b ∧ 2 * (t % b) ≤ b) ∨ (lawR m t b = t / b + 1 ∧ b ≤ 2 * (t % b)) := by
    clear e tq tn
    rcases hm with rfl | rfl | rfl <;> simp only [lawR] <;> (generalize t / b = q at *) <;> (repeat' split) <;> omega
  rw [f_lawR m hb]
  have h := near_aux hb e r0 r1 c
  refine ⟨h.1, fun z => ?_⟩
  have h2 := h.2 z
  refine ⟨fun hm => ?_, fun hm => ?_, fun hm => ?_⟩
  · subst hm
    rw [show lawR .half t b = t / b + 1 from if_neg (by omega), Int.add_mul, Int.one_mul]
    omega
  · subst hm
    have e1 : lawR .even t b = t / b + t / b % 2 := (if_neg (by omega)).trans (if_neg (by omega))
    rw [e1]
    omega
  · subst hm
    have e1 : lawR .far t b = t / b + (if t > 0 then 1 else 0) := (if_neg (by omega)).trans (if_neg (by omega))
    rw [e1]
    clear h z c e1
    generalize t / b = q at *
    generalize t % b = r at *
    by_cases ht : t > 0
    · have q0 := tq ht
      rw [if_pos ht]
      unfold aI
      rw [if_neg (show ¬ q + 1 < 0 by omega), if_neg (show ¬ t < 0 by omega), Int.add_mul, Int.one_mul]
      omega
    · rw [if_neg ht, Int.add_zero]
      have hb0 : t < 0 ∨ t = 0 := by omega
      rcases hb0 with hn | hn
      · have q0 := tn hn
        unfold aI
        rw [if_pos hn]
        by_cases q1 : q < 0
        · rw [if_pos q1, Int.neg_mul]
          omega
        · have q2 : q = 0 := by omega
          rw [q2, Int.zero_mul] at e
          omega
      · subst hn
        exfalso
        have k1 : (-1) * b < q * b := by omega
        have k2 := Int.lt_of_mul_lt_mul_right k1 (Int.le_of_lt hb)
        have k3 : q * b < 0 * b := by omega
        have k4 := Int.lt_of_mul_lt_mul_right k3 (Int.le_of_lt hb)
        omega
theorem f_le {t b : Int} (m : Mn) (hb : 0 < b) (ht : t.natAbs < 2 ^ 1000) (hl : b.natAbs < 2 ^ 1000) : (m.f t b).natAbs < 2 ^ 1010 := by
  have h := lawR_off m (t := t) hb
  rw [← f_lawR m hb] at h
  generalize m.f t b = f at *
  have h1 : f.natAbs ≤ (f * b).natAbs := by
    rw [Int.natAbs_mul]
    exact Nat.le_mul_of_pos_right _ (by omega)
  have e : (2 : Nat) ^ 1010 = 2 ^ 1000 * 1024 := Nat.pow_add 2 1000 10
  rw [e]
  generalize (2 : Nat) ^ 1000 = N at *
  generalize f * b = g at *
  omega

def spRnd (g : Int → Int → Int) : Sp := fun vs H Q _ => ∃ t b : Int, vs = [.int t, .int b] ∧ 0 < b ∧ t.natAbs < 2 ^ 4000 ∧ b.natAbs < 2 ^ 4000 ∧ Q (.int (g t b)) H
structure Mans (P : Program) (w : World) (K : PySem.W.Frag) (mg : Str → Option Value) (base : Heap) (dM : Addr) (es : Array DictEntry) (n : Nat) : Prop where
  gm : mg "MANNERS" = some (.ref dM)
  D : KDict K w dM es n
  at_ : ∀ m : Mn, ∃ (f : Addr) (fd : FuncData), PySem.W.nsIn K dM m.str = some (some (.ref f)) ∧ PySem.W.keepIn K (.ref f) = true ∧ Binds K fd ["top", "bottom"] [] ∧ FnOk P w K mg base CX0 2 f fd ["top", "bottom"] (spRnd m.f)
/-- whether a thing is a manner -/
def MannerIs (K : PySem.W.Frag) (H : Hp) (dM : Addr) (x : V) (b : Bool) : Prop := (∃ m : Mn, x = .str m.str ∧ b = true) ∨ (∃ z : Str, x = .str z ∧ PySem.W.nsIn K dM z = some none ∧ b = false) ∨ (b = false ∧ ∃ t : String, TyX K H x (.type t) ∧ kitB t "str" = some false)
def spManner (K : PySem.W.Frag) (dM : Addr) : Sp := fun vs H Q _ => ∃ (x : V) (b : Bool), vs = [x] ∧ MannerIs K H dM x b ∧ Q (.bl b) H
def spRounded (K : PySem.W.Frag) : Sp := fun vs H Q _ => ∃ (a : Addr) (m : Mn) (t b : Int), vs = [.ref a, .str m.str] ∧ SqT K H a [.int t, .int b] ∧ 0 < b ∧ t.natAbs < 2 ^ 4000 ∧ b.natAbs < 2 ^ 4000 ∧ Q (.int (m.f t b)) H
theorem two_b {b : Int} (h : b.natAbs < 2 ^ 4000) : (2 * b).natAbs < 2 ^ 4001 := by
  rw [Int.natAbs_mul, Nat.pow_succ, Nat.mul_comm]
  exact Nat.mul_lt_mul_of_pos_right h (by decide)
theorem half_le {t b : Int} (ht : t.natAbs < 2 ^ 4000) (hb : b.natAbs < 2 ^ 4000) : (fHalf t b).natAbs < 2 ^ 4003 := by
  unfold fHalf
  refine Nat.lt_of_le_of_lt (Int.natAbs_ediv_le_natAbs _ _) ?_
  have h1 : (2 * t + b).natAbs ≤ 2 * t.natAbs + b.natAbs := by omega
  have e : 2 ^ 4003 = 2 ^ 4000 * 8 := Nat.pow_add 2 4000 3
  rw [e]
  generalize 2 ^ 4000 = N at *
  omega
section
variable {P : Program} {w : World} {K : PySem.W.Frag} {mg : Str → Option Value} {base : Heap}
theorem sc_downward : FnScope ["top", "bottom"] ["top", "bottom"] (defScope s_downward) := ⟨rfl, rfl, rfl, by decide +kernel, rfl, by decide +kernel, by decide +kernel⟩
theorem ok_downward {f : Addr} {fd : FuncData} {k : Nat} (F : Fun K "downward" "downward" s_downward f fd) : FnOk P w K mg base CX0 (k + 1) f fd ["top", "bottom"] (spRnd fDown) := by
  refine F.ok sc_downward (fun vs H Q E h => ?_) (fun cdv A outer s H vs Q E hr h => ?_)
  · obtain ⟨t, b, rfl, _⟩ := h
    rfl
  · obtain ⟨t, b, rfl, hb, ht, hl, q⟩ := h
    refine ⟨_, (pss_one (ps_ret (pe_op op_fdivW (pv 0) (pv 1)))), ?_⟩
    exact ⟨_, rfl, _, rfl, _, _, rfl, rfl, wide_div hb hl (by decide) (by decide), q⟩
theorem sc_upward : FnScope ["top", "bottom"] ["top", "bottom"] (defScope s_upward) := ⟨rfl, rfl, rfl, by decide +kernel, rfl, by decide +kernel, by decide +kernel⟩
theorem ok_upward {f : Addr} {fd : FuncData} {k : Nat} (F : Fun K "upward" "upward" s_upward f fd) : FnOk P w K mg base CX0 (k + 1) f fd ["top", "bottom"] (spRnd fUp) := by
  refine F.ok sc_upward (fun vs H Q E h => ?_) (fun cdv A outer s H vs Q E hr h => ?_)
  · obtain ⟨t, b, rfl, _⟩ := h
    rfl
  · obtain ⟨t, b, rfl, hb, ht, hl, q⟩ := h
    refine ⟨_, (pss_one (ps_ret (pe_un un_neg (pe_op op_fdivW (pe_un un_neg (pv 0)) (pv 1))))), ?_⟩
    exact ⟨_, rfl, _, rfl, _, rfl, _, _, rfl, rfl, wide_div hb hl (by decide) (by decide), _, rfl, q⟩
theorem sc_inward : FnScope ["top", "bottom"] ["top", "bottom"] (defScope s_inward) := ⟨rfl, rfl, rfl, by decide +kernel, rfl, by decide +kernel, by decide +kernel⟩
theorem ok_inward {f : Addr} {fd : FuncData} (F : Fun K "inward" "inward" s_inward f fd) (c_downward : Cal P w K mg base 1 "downward" ["top", "bottom"] (spRnd fDown)) (c_upward : Cal P w K mg base 1 "upward" ["top", "bottom"] (spRnd fUp)) : FnOk P w K mg base CX0 2 f fd ["top", "bottom"] (spRnd fIn) := by
  refine F.ok sc_inward (fun vs H Q E h => ?_) (fun cdv A outer s H vs Q E hr h => ?_)
  · obtain ⟨t, b, rfl, _⟩ := h
    rfl
  · obtain ⟨t, b, rfl, hb, ht, hl, q⟩ := h
    refine ⟨_, (pss_one (ps_ret (pe_ifExp (pt_cmpR op_gt (pv 0) pe_int (nomark _)) (pe_cal c_downward hr (pa_cons (pv 0) (pa_cons (pv 1) pa_nil))) (pe_cal c_upward hr (pa_cons (pv 0) (pa_cons (pv 1) pa_nil)))))), ?_⟩
    refine ⟨_, rfl, _, _, rfl, rfl, _, rfl, ite2 (fun c => ?_) (fun c => ?_)⟩
    · refine ⟨_, rfl, _, rfl, t, b, rfl, hb, ht, hl, ?_⟩
      have hc : t > 0 := toB c
      unfold fIn at q
      rw [if_pos hc] at q
      exact q
    · refine ⟨_, rfl, _, rfl, t, b, rfl, hb, ht, hl, ?_⟩
      have hc : ¬ t > 0 := toNB c
      unfold fIn at q
      rw [if_neg hc] at q
      exact q
theorem sc_outward : FnScope ["top", "bottom"] ["top", "bottom"] (defScope s_outward) := ⟨rfl, rfl, rfl, by decide +kernel, rfl, by decide +kernel, by decide +kernel⟩
theorem ok_outward {f : Addr} {fd : FuncData} (F : Fun K "outward" "outward" s_outward f fd) (c_downward : Cal P w K mg base 1 "downward" ["top", "bottom"] (spRnd fDown)) (c_upward : Cal P w K mg base 1 "upward" ["top", "bottom"] (spRnd fUp)) : FnOk P w K mg base CX0 2 f fd ["top", "bottom"] (spRnd fOut) := by
  refine F.ok sc_outward (fun vs H Q E h => ?_) (fun cdv A outer s H vs Q E hr h => ?_)
  · obtain ⟨t, b, rfl, _⟩ := h
    rfl
  · obtain ⟨t, b, rfl, hb, ht, hl, q⟩ := h
    refine ⟨_, (pss_one (ps_ret (pe_ifExp (pt_cmpR op_gt (pv 0) pe_int (nomark _)) (pe_cal c_upward hr (pa_cons (pv 0) (pa_cons (pv 1) pa_nil))) (pe_cal c_downward hr (pa_cons (pv 0) (pa_cons (pv 1) pa_nil)))))), ?_⟩
    refine ⟨_, rfl, _, _, rfl, rfl, _, rfl, ite2 (fun c => ?_) (fun c => ?_)⟩
    · refine ⟨_, rfl, _, rfl, t, b, rfl, hb, ht, hl, ?_⟩
      have hc : t > 0 := toB c
      unfold fOut at q
      rw [if_pos hc] at q
      exact q
    · refine ⟨_, rfl, _, rfl, t, b, rfl, hb, ht, hl, ?_⟩
      have hc : ¬ t > 0 := toNB c
      unfold fOut at q
      rw [if_neg hc] at q
      exact q
theorem sc_nearest_greater : FnScope ["top", "bottom"] ["top", "bottom"] (defScope s_nearest_greater) := ⟨rfl, rfl, rfl, by decide +kernel, rfl, by decide +kernel, by decide +kernel⟩
theorem ok_nearest_greater {f : Addr} {fd : FuncData} {k : Nat} (F : Fun K "nearest_greater" "nearest_greater" s_nearest_greater f fd) : FnOk P w K mg base CX0 (k + 1) f fd ["top", "bottom"] (spRnd fHalf) := by
  refine F.ok sc_nearest_greater (fun vs H Q E h => ?_) (fun cdv A outer s H vs Q E hr h => ?_)
  · obtain ⟨t, b, rfl, _⟩ := h
    rfl
  · obtain ⟨t, b, rfl, hb, ht, hl, q⟩ := h
    refine ⟨_, (pss_one (ps_ret (pe_op op_fdivW (pe_op op_add (pe_op op_mul pe_int (pv 0)) (pv 1)) (pe_op op_mul pe_int (pv 1))))), ?_⟩
    exact ⟨_, rfl, _, _, rfl, rfl, .inl ⟨by decide, by decide⟩, _, rfl, _, _, rfl, rfl, _, rfl, _, _, rfl, rfl, .inl ⟨by decide, by decide⟩, _, _, rfl, rfl, wide_div (by omega) (two_b hl) (by decide) (by decide), q⟩
theorem sc_nearest_even : FnScope ["top", "bottom", "near", "halfway"] ["top", "bottom"] (defScope s_nearest_even) := ⟨rfl, rfl, rfl, by decide +kernel, rfl, by decide +kernel, by decide +kernel⟩
theorem ok_nearest_even {f : Addr} {fd : FuncData} (F : Fun K "nearest_even" "nearest_even" s_nearest_even f fd) (c_nearest_greater : Cal P w K mg base 1 "nearest_greater" ["top", "bottom"] (spRnd fHalf)) : FnOk P w K mg base CX0 2 f fd ["top", "bottom"] (spRnd fEven) := by
  refine F.ok sc_nearest_even (fun vs H Q E h => ?_) (fun cdv A outer s H vs Q E hr h => ?_)
  · obtain ⟨t, b, rfl, _⟩ := h
    rfl
  · obtain ⟨t, b, rfl, hb, ht, hl, q⟩ := h
    have hn := half_le ht hl
    refine ⟨_, (pss_cons (ps_set (i := 2) sc_nearest_even.nd rfl (.inl rfl) (pe_cal c_nearest_greater hr (pa_cons (pv 0) (pa_cons (pv 1) pa_nil))))
      (pss_cons (ps_set (i := 3) sc_nearest_even.nd rfl (.inl rfl) (pe_cmpR op_eq (pe_op op_mul pe_int (pe_op op_sub (pe_op op_mulW (pv 2) (pv 1)) (pv 0))) (pv 1) (nomark _)))
      (pss_one (ps_ret (pe_ifExp (PW.pt (pw_and (pt_val (pv 3)) (pw_and1 (pt_truth (pe_op op_and (pv 2) pe_int) (by intro _; rfl))))) (pe_op op_sub (pv 2) pe_int) (pv 2)))))), ?_⟩
    refine ⟨_, rfl, _, rfl, t, b, rfl, hb, ht, hl, ?_⟩
    unfold fEven at q
    generalize fHalf t b = n at *
    refine ⟨_, rfl, _, rfl, _, _, rfl, rfl, wide_mul hn hl (by decide) (by decide) (by decide), _, rfl, _, _, rfl, rfl, _, _, rfl, rfl, .inl ⟨by decide, by decide⟩, _, rfl, rfl, ?_⟩
    have eB : (decide (V.int (2 * (n * b - t)) = V.int b)) = decide (2 * (n * b - t) = b) := by
      by_cases h : 2 * (n * b - t) = b
      · rw [h, decide_eq_true rfl, decide_eq_true rfl]
      · rw [decide_eq_false h, decide_eq_false (fun z => h (V.int.inj z))]
    rw [eB]
    by_cases hc : 2 * (n * b - t) = b
    · rw [decide_eq_true hc]
      refine ⟨_, rfl, _, rfl, iteT ⟨_, rfl, _, _, rfl, rfl, _, rfl, ?_⟩⟩
      rw [PyProof.Rows.bitAnd_m1]
      by_cases h2 : n % 2 ≠ 0
      · have e : (n % 2 != 0) = true := by
          rw [bne_iff_ne]
          exact h2
        rw [e]
        rw [if_pos ⟨hc, h2⟩] at q
        exact iteT ⟨_, rfl, _, _, rfl, rfl, q⟩
      · have e : (n % 2 != 0) = false := by
          have : n % 2 = 0 := by omega
          rw [this]
          rfl
        rw [e]
        rw [if_neg (fun z => h2 z.2)] at q
        exact iteF ⟨_, rfl, q⟩
    · rw [decide_eq_false hc]
      rw [if_neg (fun z => hc z.1)] at q
      exact ⟨_, rfl, _, rfl, iteF (iteF ⟨_, rfl, q⟩)⟩
theorem sc_nearest_far : FnScope ["top", "bottom"] ["top", "bottom"] (defScope s_nearest_far) := ⟨rfl, rfl, rfl, by decide +kernel, rfl, by decide +kernel, by decide +kernel⟩
theorem ok_nearest_far {f : Addr} {fd : FuncData} (F : Fun K "nearest_far" "nearest_far" s_nearest_far f fd) (c_nearest_greater : Cal P w K mg base 1 "nearest_greater" ["top", "bottom"] (spRnd fHalf)) : FnOk P w K mg base CX0 2 f fd ["top", "bottom"] (spRnd fFar) := by
  refine F.ok sc_nearest_far (fun vs H Q E h => ?_) (fun cdv A outer s H vs Q E hr h => ?_)
  · obtain ⟨t, b, rfl, _⟩ := h
    rfl
  · obtain ⟨t, b, rfl, hb, ht, hl, q⟩ := h
    refine ⟨_, (pss_one (ps_ret (pe_ifExp (pt_cmpR op_gt (pv 0) pe_int (nomark _)) (pe_cal c_nearest_greater hr (pa_cons (pv 0) (pa_cons (pv 1) pa_nil))) (pe_un un_neg (pe_cal c_nearest_greater hr (pa_cons (pe_un un_neg (pv 0)) (pa_cons (pv 1) pa_nil))))))), ?_⟩
    refine ⟨_, rfl, _, _, rfl, rfl, _, rfl, ite2 (fun c => ?_) (fun c => ?_)⟩
    · refine ⟨_, rfl, _, rfl, t, b, rfl, hb, ht, hl, ?_⟩
      have hc : t > 0 := toB c
      unfold fFar at q
      rw [if_pos hc] at q
      exact q
    · refine ⟨_, rfl, _, rfl, _, rfl, -t, b, rfl, hb, by rw [Int.natAbs_neg]; exact ht, hl, _, rfl, ?_⟩
      have hc : ¬ t > 0 := toNB c
      unfold fFar at q
      rw [if_neg hc] at q
      exact q
theorem sc_is_manner : FnScope ["thing"] ["thing"] (defScope s_is_manner) := ⟨rfl, rfl, rfl, by decide +kernel, rfl, by decide +kernel, by decide +kernel⟩
theorem ok_is_manner {f : Addr} {fd : FuncData} {k : Nat} {dM : Addr} {es : Array DictEntry} {n : Nat} (M : Mans P w K mg base dM es n) (F : Fun K "is_manner" "is_manner" s_is_manner f fd) (z : Zs mg) : FnOk P w K mg base CX0 (k + 1) f fd ["thing"] (spManner K dM) := by
  refine F.ok sc_is_manner (fun vs H Q E h => ?_) (fun cdv A outer s H vs Q E hr h => ?_)
  · obtain ⟨x, b, rfl, _⟩ := h
    rfl
  · obtain ⟨x, b, rfl, hm, q⟩ := h
    refine ⟨_, (pss_one (ps_ret (pe_and (pe_callB call_isi (by rfl) z.isinstance (by decide +kernel) (pa_cons (pv 0) (pa_cons (pe_bltn (v := .ty "str") (by rfl) z.str (by decide +kernel) rfl) pa_nil))) (pe_one (pe_cmpR (op_in_kd M.D) (pv 0) (pe_glob (v := .ref dM) (by rfl) M.gm rfl) (by rfl)))))), ?_⟩
    rcases hm with ⟨m, rfl, rfl⟩ | ⟨y, rfl, ny, rfl⟩ | ⟨rfl, t, ty, kt⟩
    · obtain ⟨fm, fdm, h1, _⟩ := M.at_ m
      exact ⟨_, rfl, _, .ty "str", _, _, true, rfl, .ty _, .base (.str _), kit_ty (by decide +kernel), _, rfl, iteT ⟨_, rfl, _, _, rfl, rfl, h1, q⟩⟩
    · exact ⟨_, rfl, _, .ty "str", _, _, true, rfl, .ty _, .base (.str _), kit_ty (by decide +kernel), _, rfl, iteT ⟨_, rfl, _, _, rfl, rfl, ny, q⟩⟩
    · exact ⟨_, rfl, _, .ty "str", _, _, false, rfl, .ty _, ty, kit_ty kt, _, rfl, iteF q⟩
end
end E1

namespace E1
open PySem PySem.Spec PyProof.Rows L2

def spRoundedX (K : PySem.W.Frag) (dM CB : Addr) : Sp := fun vs H Q E => ∃ (a : Addr) (x : V) (t b : Int), vs = [.ref a, x] ∧ SqT K H a [.int t, .int b] ∧ 0 < b ∧ t.natAbs < 2 ^ 4000 ∧ b.natAbs < 2 ^ 4000 ∧
  ((∃ m : Mn, x = .str m.str ∧ Q (.int (m.f t b)) H) ∨ (MannerIs K H dM x false ∧ ∀ d, H d = none → E (.ref CB) (some d) (upd H d (.xd [("part", .str "manner")]))))
/-- no manner, whatever else is laid -/
def NotM (K : PySem.W.Frag) (H : Hp) (dM : Addr) (x : V) : Prop := ∀ H', Same H H' → MannerIs K H' dM x false
def spRefused (K : PySem.W.Frag) (dM : Addr) : Sp := fun vs H Q _ => ∃ x : V, vs = [x] ∧ NotM K H dM x ∧ ∀ H', Same H H' → Q (.bl true) H'
/-- the classes of refusals here -/
structure Errs (K : PySem.W.Frag) (mg : Str → Option Value) (CE CB CN CU : Addr) : Prop where
  gE : mg "EchoError" = some (.ref CE)
  gB : mg "BadForm" = some (.ref CB)
  gN : mg "NoFraction" = some (.ref CN)
  gU : mg "Unfit" = some (.ref CU)
  XB : ExcC K CB
  noP : PySem.W.findIn K (.ref CB) "part" = some none
  ex : PySem.W.exmOne K (.ref CB) (.ref CE) = some true
  kB : PySem.W.kitOne K (.ref CB) (.ref CB) = some true
  kN : PySem.W.kitOne K (.ref CB) (.ref CN) = some false
  kU : PySem.W.kitOne K (.ref CB) (.ref CU) = some false
section
variable {P : Program} {w : World} {K : PySem.W.Frag} {mg : Str → Option Value} {base : Heap}
theorem sc_rounded : FnScope ["value", "manner", "top", "bottom", "rule"] ["value", "manner"] (defScope s_rounded) := ⟨rfl, rfl, rfl, by decide +kernel, rfl, by decide +kernel, by decide +kernel⟩
theorem ok_rounded {f : Addr} {fd : FuncData} {dvs : List V} {dM : Addr} {es : Array DictEntry} {n : Nat} (M : Mans P w K mg base dM es n) {CE CB CN CU fI : Addr} (X : Errs K mg CE CB CN CU) (EC : PySem.ErrX.ErrC K mg "BadForm" CB) (IO : PySem.ErrX.IniOk P w K mg CB fI "part") (F : FunD K "rounded" "rounded" (defArgs s_rounded) (defBody s_rounded) (defScope s_rounded) dvs [] f fd) (c_is_manner : Cal P w K mg base 1 "is_manner" ["thing"] (spManner K dM)) : FnOk P w K mg base (L2.CX P w) 3 f fd ["value", "manner"] (spRoundedX K dM CB) := by
  refine F.ok (CX := L2.CX P w) sc_rounded (fun vs H Q E h => ?_) (fun cdv A outer s H vs Q E hr h => ?_)
  · obtain ⟨a, x, t, b, rfl, _⟩ := h
    rfl
  · obtain ⟨a, x, t, b, rfl, ha, hb, ht, hl, h⟩ := h
    rcases h with ⟨m, rfl, q⟩ | ⟨hm, q⟩
    · obtain ⟨fm, fdm, h1, hK, hB, hF⟩ := M.at_ m
      refine ⟨_, PSs.nox (pss_cons (ps_if (pt_not (pt_val (pe_cal c_is_manner hr (pa_cons (pv 1) pa_nil)))) (pss_one ps_never) pss_nil)
      (pss_cons (ps_asg (pv 0) (pg_tup (by rfl) (pgs_cons (pg_name (i := 2) sc_rounded.nd rfl (.inl rfl)) (pgs_cons (pg_name (i := 3) sc_rounded.nd rfl (.inl rfl)) pgs_nil))))
      (pss_cons (ps_set (i := 4) sc_rounded.nd rfl (.inl rfl) (pe_ix ix_kdict (pe_glob (v := .ref dM) (by rfl) M.gm rfl) (pv 1) (fun _ _ => rfl)))
      (pss_one (ps_ret (pe_callL (i := 4) hF hr rfl (Or.inl rfl) hK hB .nil pass0 (pa_cons (pv 2) (pa_cons (pv 3) pa_nil)))))))), ?_⟩
      refine ⟨_, rfl, _, true, rfl, .inl ⟨m, rfl, rfl⟩, _, rfl, iteF ?_⟩
      refine ⟨_, rfl, a, _, rfl, ha, rfl, _, _, rfl, _, _, rfl, rfl, ?_⟩
      refine ⟨_, rfl, dM, m.str, .ref fm, rfl, rfl, ⟨es, n, _, M.D.at_, M.D.lit, h1, rfl⟩, ?_⟩
      exact ⟨rfl, _, rfl, _, rfl, t, b, rfl, hb, ht, hl, q⟩
    · obtain ⟨fm, fdm, h1, hK, hB, hF⟩ := M.at_ .half
      refine ⟨_, (pss_cons (ps_if (pt_not (pt_val (pe_cal c_is_manner hr (pa_cons (pv 1) pa_nil)))) (pss_one (ps_raiseErr rfl EC IO hr (takes_of rfl rfl rfl rfl) (by exact (pa_cons pe_str pa_nil)))) pss_nil)
      (pss_cons (ps_asg (pv 0) (pg_tup (by rfl) (pgs_cons (pg_name (i := 2) sc_rounded.nd rfl (.inl rfl)) (pgs_cons (pg_name (i := 3) sc_rounded.nd rfl (.inl rfl)) pgs_nil))))
      (pss_cons (ps_set (i := 4) sc_rounded.nd rfl (.inl rfl) (pe_ix ix_kdict (pe_glob (v := .ref dM) (by rfl) M.gm rfl) (pv 1) (fun _ _ => rfl)))
      (pss_one (ps_ret (pe_callL (i := 4) hF hr rfl (Or.inl rfl) hK hB .nil pass0 (pa_cons (pv 2) (pa_cons (pv 3) pa_nil)))))))), ?_⟩
      refine ⟨_, rfl, _, false, rfl, hm, _, rfl, iteT ?_⟩
      exact ⟨_, rfl, .inl ⟨_, rfl, by decide⟩, q⟩
theorem sc__law_refused : FnScope ["_law_style", "_law_marks", "e"] ["_law_style"] (defScope s__law_refused) := ⟨rfl, rfl, rfl, by decide +kernel, rfl, by decide +kernel, by decide +kernel⟩
theorem ok__law_refused {f : Addr} {fd : FuncData} {dM : Addr} {CE CB CN CU : Addr} (X : Errs K mg CE CB CN CU) (EC : PySem.ErrX.ErrC K mg "BadForm" CB) (F : Fun K "_law_refused" "_law_refused" s__law_refused f fd) (z : Zs mg) (c_rounded : CalX P w K mg base 3 "rounded" ["value", "manner"] [] (spRoundedX K dM CB)) : FnOk P w K mg base CX0 4 f fd ["_law_style"] (spRefused K dM) := by
  refine F.ok sc__law_refused (fun vs H Q E h => ?_) (fun cdv A outer s H vs Q E hr h => ?_)
  · obtain ⟨x, rfl, _⟩ := h
    rfl
  · obtain ⟨x, rfl, hm, q⟩ := h
    refine ⟨_, (pss_cons (ps_set (i := 1) sc__law_refused.nd rfl (.inl rfl) (pe_lst pa_nil))
      (pss_cons (ps_try_as (i := 2) (c := .ref CE) (tb := fun W => tDrop (tCallS (spRoundedX K dM CB) (WE W) (tCons (tTup (tCons (tC (.int 7)) (tCons (tC (.int 2)) tNil))) (tCons (tVar 0) tNil)))) (ts := fun a cls d => tSeq (tAsg (tLst (tCons (tCB (rIsX K a cls d) (tCons (tVar 2) (tCons (tC (.ref CB)) tNil))) (tCons (tCB (rIsX K a cls d) (tCons (tVar 2) (tCons (tC (.ref CN)) tNil))) (tCons (tCB (rIsX K a cls d) (tCons (tVar 2) (tCons (tC (.ref CU)) tNil))) tNil)))) (gName 1)) (tIfS (tB (tOp (rIxL K) (tVar 1) (tC (.int 0)))) (tDrop (tBM K "list" rAppend (tVar 1) (tCons (tXf a cls d CB "part" (tVar 2)) tNil))) tNext)) rfl rfl sc__law_refused.nd rfl rfl ⟨rfl, by decide, .inl X.gE⟩ takes0 (fun W pn xe tk _ => (pss_one (ps_expr (pe_calxS c_rounded hr tk (pa_cons (pe_tup (pa_cons pe_int (pa_cons pe_int pa_nil))) (pa_cons (pv 0) pa_nil))))))
      (fun a oe cls d pn hz hf => (pss_cons (ps_set (i := 1) sc__law_refused.nd rfl (.inl rfl) (pe_lst (pa_cons (pe_callB (call_isX hz hf) (by rfl) z.isinstance (by decide +kernel) (pa_cons (pv 2) (pa_cons (pe_glob (v := .ref CB) (by rfl) X.gB rfl) pa_nil))) (pa_cons (pe_callB (call_isX hz hf) (by rfl) z.isinstance (by decide +kernel) (pa_cons (pv 2) (pa_cons (pe_glob (v := .ref CN) (by rfl) X.gN rfl) pa_nil))) (pa_cons (pe_callB (call_isX hz hf) (by rfl) z.isinstance (by decide +kernel) (pa_cons (pv 2) (pa_cons (pe_glob (v := .ref CU) (by rfl) X.gU rfl) pa_nil))) pa_nil)))))
      (pss_one (ps_if (pt_val (pe_ix ix_list (pv 1) pe_int (fun _ _ => rfl))) (pss_one (ps_expr (pe_bm PySem.F.plainAttrs_list PySem.F.slot_list_append PySem.F.type_list_append mt_append (pv 1) (pa_cons (by exact (pe_xf (E1.ErrC.xf EC) X.noP hz hf (pv 2))) pa_nil)))) pss_nil)))))
      (pss_one (ps_ret (pe_cmpR (op_eqD hr.units) (pv 1) (pe_lst (pa_cons pe_bl (pa_cons pe_bl (pa_cons pe_bl (pa_cons pe_str pa_nil))))) (nomark _)))))), ?_⟩
    refine ⟨(by show 0 ≤ sizeLine; decide), fun l hl => ?_⟩
    have s1 := same_new (o := .lst []) hl
    refine ⟨(by show 2 ≤ sizeLine; decide), fun p hp => ?_⟩
    have s2 := same_new (o := .tup [.int 7, .int 2]) hp
    refine ⟨_, rfl, p, x, 7, 2, rfl, SqT.of upd_same, by decide, by decide, by decide, .inr ⟨hm _ (s1.trans s2), fun d hd => ⟨true, X.ex, fun _ a ha => ?_, fun z => nomatch z⟩⟩⟩
    have s3 := same_new (o := .xd [("part", .str "manner")]) hd
    refine ⟨_, rfl, CB, _, _, true, rfl, X.XB, rfl, (fun u h => h), (fun dd e => by cases e; exact ⟨_, upd_same⟩), X.kB, _, rfl, CB, _, _, false, rfl, X.XB, rfl, (fun u h => h), (fun dd e => by cases e; exact ⟨_, upd_same⟩), X.kN, _, rfl, CB, _, _, false, rfl, X.XB, rfl, (fun u h => h), (fun dd e => by cases e; exact ⟨_, upd_same⟩), X.kU, (by show 3 ≤ sizeLine; decide), fun l2 hl2 => ?_⟩
    have nd : d ≠ l2 := ne_of_none upd_same hl2
    refine ⟨_, rfl, l2, _, 0, .bl true, rfl, rfl, SqL.of upd_same, a0, _, rfl, iteT ?_⟩
    refine ⟨_, rfl, .inl ⟨rfl, _, SqL.of upd_same⟩, _, rfl, rfl, rfl, d, _, _, rfl, (upd_ne nd).trans upd_same, rfl, l2, _, _, rfl, rfl, upd_same, by decide, ?_⟩
    refine ⟨_, rfl, (by show 4 ≤ sizeLine; decide), fun l3 hl3 => ?_⟩
    refine ⟨.list [.bool true, .bool false, .bool false, .str "manner"], .list [.bool true, .bool false, .bool false, .str "manner"], .lst (SqL.of ((upd_ne (ne_of_none upd_same hl3)).trans upd_same)) (.cons (.bl _) (.cons (.bl _) (.cons (.bl _) (.cons (.str _) .nil)))), .lst (SqL.of upd_same) (.cons (.bl _) (.cons (.bl _) (.cons (.bl _) (.cons (.str _) .nil)))), (by decide +kernel), (by decide +kernel), ?_⟩
    rw [SeqAt.eqv_refl _ (by decide +kernel)]
    refine q _ (((s1.trans s2).trans s3).trans (Same.trans (fun b o e => ?_) (same_new hl3)))
    rw [upd_ne (ne_of_none e hl2), upd_ne (ne_of_none e hl2)]
    exact e
end
end E1

namespace E1
open PySem PySem.Spec PyProof.Rows L2
open C8 (tCut pss_cut)
structure Drw (a : Addr) (H H' : Hp) : Prop where
  but : SameBut a H H'
  new : ∀ b, H b = none → H' b = none
theorem Drw.refl (a : Addr) (H : Hp) : Drw a H H := ⟨SameBut.refl a H, fun _ h => h⟩
theorem Drw.trans {a : Addr} {H H1 H2 : Hp} (x : Drw a H H1) (y : Drw a H1 H2) : Drw a H H2 := ⟨x.but.trans y.but, fun b h => y.new b (x.new b h)⟩
/-- what lies at a well's place is no new thing -/
theorem WellAt.ne {H : Hp} {a p : Addr} {c : Int} (h : WellAt H a c) (hp : H p = none) : p ≠ a := fun e => by
  obtain ⟨_, _, _, z, _⟩ := h
  rw [e, z] at hp
  cases hp
/-- new things alone, beside the well -/
theorem SameBut.free {a : Addr} {H H' : Hp} {p : Addr} {c : Int} (s : SameBut a H H') (w : WellAt H' a c) (hp : H' p = none) : H p = none := by
  cases e : H p with
  | none => rfl
  | some o =>
    rw [s _ _ (w.ne hp) e] at hp
    cases hp
def spLowP : Sp := fun vs H Q _ => ∃ t b : Int, vs = [.int t, .int b] ∧ 0 < b ∧ b.natAbs < 2 ^ 4000 ∧ ∀ p, H p = none → Q (.ref p) (upd H p (.tup [.int (lowT t b), .int (lowB t b)]))
theorem lowT_divP {t b : Int} (hb : 0 < b) : t / gI t b = lowT t b ∧ b / gI t b = lowB t b := by
  unfold lowT lowB
  rw [if_neg (by omega), if_neg (by omega)]
  exact ⟨rfl, rfl⟩
theorem add_lt {x y : Int} {a : Nat} (hx : x.natAbs < 2 ^ a) (hy : y.natAbs < 2 ^ a) : (x + y).natAbs < 2 ^ (a + 1) := by
  rw [Nat.pow_succ]
  omega

theorem low_pos' {t b : Int} (hb : b ≠ 0) : 0 < lowB t b := by
  have g0 := gI_pos (t := t) hb
  have g1 := gI_le (t := t) hb
  have : 1 ≤ lowB t b := by
    unfold lowB
    refine (Int.le_ediv_iff_mul_le g0).mpr ?_
    split <;> omega
  omega
theorem lowT_le {t b : Int} : (lowT t b).natAbs ≤ t.natAbs := by
  unfold lowT
  refine Nat.le_trans (Int.natAbs_ediv_le_natAbs _ _) ?_
  split <;> omega
theorem lowB_le {t b : Int} : (lowB t b).natAbs ≤ b.natAbs := by
  unfold lowB
  refine Nat.le_trans (Int.natAbs_ediv_le_natAbs _ _) ?_
  split <;> omega
def spGreat : Sp := fun vs H Q _ => ∃ (a : Addr) (c m : Int), vs = [.ref a, .int m] ∧ WellAt H a c ∧ c ≤ 1000000 ∧ 0 ≤ m ∧ m ≤ 4 ∧ ∀ (r : Int) (H' : Hp), 0 ≤ r → r < 100000000000000000000000000000000 → Drw a H H' → WellAt H' a (c + 4) → Q (.int r) H'
def spValue : Sp := fun vs H Q _ => ∃ (a : Addr) (c : Int), vs = [.ref a] ∧ WellAt H a c ∧ c ≤ 100000 ∧ ∀ (t b : Int) (p : Addr) (H' : Hp), 0 < b → t.natAbs < 2 ^ 1000 → b.natAbs < 2 ^ 1000 → SameBut a H H' → H' p = some (.tup [.int t, .int b]) → WellAt H' a (c + 50) → Q (.ref p) H'
def spNear : Sp := fun vs H Q _ => ∃ (t b : Int) (m : Mn), vs = [.int t, .int b, .int (m.f t b), .str m.str] ∧ (m = .half ∨ m = .even ∨ m = .far) ∧ 0 < b ∧ t.natAbs < 2 ^ 1000 ∧ b.natAbs < 2 ^ 1000 ∧ Q (.bl true) H
def spRight : Sp := fun vs H Q _ => ∃ (t b : Int) (m : Mn), vs = [.int t, .int b, .int (m.f t b), .str m.str] ∧ 0 < b ∧ t.natAbs < 2 ^ 1000 ∧ b.natAbs < 2 ^ 1000 ∧ Q (.bl true) H
theorem nb {f g : Int} (h : f.natAbs < 2 ^ 1010) (hg : g.natAbs ≤ f.natAbs + 1) : g.natAbs < 2 ^ 1011 := by
  have e : (2 : Nat) ^ 1011 = 2 ^ 1010 * 2 := Nat.pow_succ ..
  rw [e]
  generalize (2 : Nat) ^ 1010 = N at *
  omega
theorem qt {p : Prop} [Decidable p] {Q : VK} {H : Hp} (h : p) (q : Q (.bl true) H) : Q (.bl (decide p)) H := (congrArg (fun c => Q (.bl c) H) (decide_eq_true h)).mpr q
theorem iteC {c d : Bool} {A B : Prop} (e : c = d) (h : if d = true then A else B) : if c = true then A else B := e ▸ h
theorem ab_abs (x : Int) : (if x < 0 then -x else x).natAbs = x.natAbs := by split <;> omega
section
variable {P : Program} {w : World} {K : PySem.W.Frag} {mg : Str → Option Value} {base : Heap}
theorem sc__law_low : FnScope ["_law_top", "_law_bottom", "_law_one", "_law_other"] ["_law_top", "_law_bottom"] (defScope s__law_low) := ⟨rfl, rfl, rfl, by decide +kernel, rfl, by decide +kernel, by decide +kernel⟩
theorem ok__law_low {f : Addr} {fd : FuncData} {k : Nat} (F : Fun K "_law_low" "_law_low" s__law_low f fd) (z : Zs mg) : FnOk P w K mg base CX0 (k + 1) f fd ["_law_top", "_law_bottom"] spLowP := by
  refine F.ok sc__law_low (fun vs H Q E h => ?_) (fun cdv A outer s H vs Q E hr h => ?_)
  · obtain ⟨t, b, rfl, _⟩ := h
    rfl
  · obtain ⟨t, b, rfl, hb, hl, q⟩ := h
    refine ⟨_, (pss_cons (ps_set (i := 2) sc__law_low.nd rfl (.inl rfl) (pe_callB call_abs (by rfl) z.abs (by decide +kernel) (pa_cons (pv 0) pa_nil)))
      (pss_cons (ps_set (i := 3) sc__law_low.nd rfl (.inl rfl) (pv 1))
      (pss_cons (ps_while PassesOwn.never (pt_cmpR op_gt (pv 3) pe_int (nomark _)) (pss_one (ps_par (i := 2) (j := 3) (by rfl) sc__law_low.nd rfl rfl (by decide) rfl rfl (pa_cons (pv 3) (pa_cons (pe_op op_mod (pv 2) (pv 3)) pa_nil)) (by rfl))))
      (pss_one (ps_ret (pe_tup (pa_cons (pe_op op_fdivW (pv 0) (pv 2)) (pa_cons (pe_op op_fdivW (pv 1) (pv 2)) pa_nil)))))))), ?_⟩
    have g0 := gI_pos (t := t) (show b ≠ 0 by omega)
    have g1 : (gI t b).natAbs < 2 ^ 4000 := Nat.lt_of_le_of_lt (gI_le (by omega)) hl
    refine ⟨_, rfl, _, rfl, ?_⟩
    refine ⟨_, rfl, ?_⟩
    dsimp only [gName, tSeq]
    refine while_by (fun σ H' => H' = H ∧ ∃ m n : Nat, σ = [some (.int t), some (.int b), some (.int (m : Int)), some (.int (n : Int))] ∧ Nat.gcd m n = Int.gcd t b)
      (fun σ _ => match σ with | [_, _, _, some (.int r)] => r.toNat | _ => 0) ⟨rfl, t.natAbs, b.natAbs, ?_, rfl⟩ (fun σ H1 hP => ?_) (fun σ H Q Q' m hh => ?_)
    · have e1 : (if t < 0 then -t else t) = (t.natAbs : Int) := by split <;> omega
      have e2 : b = (b.natAbs : Int) := by omega
      show [some (V.int t), some (V.int b), some (V.int (if t < 0 then -t else t)), some (V.int b)] = _
      rw [e1, ← e2]
    · obtain ⟨rfl, m, n, rfl, hg⟩ := hP
      refine ⟨_, rfl, _, _, rfl, rfl, _, rfl, ite2 (fun c => ?_) (fun c => ?_)⟩
      · have hn := toB c
        refine ⟨_, rfl, _, rfl, _, rfl, _, _, rfl, rfl, (by omega), _, _, rfl, ⟨⟨rfl, n, m % n, rfl, ?_⟩, ?_⟩⟩
        · rw [← hg, Nat.gcd_comm n (m % n), ← Nat.gcd_rec n m, Nat.gcd_comm]
        · show ((m : Int) % (n : Int)).toNat < ((n : Int)).toNat
          have := Int.emod_lt_of_pos (m : Int) (show (0 : Int) < n by omega)
          have := Int.emod_nonneg (m : Int) (show (n : Int) ≠ 0 by omega)
          omega
      · have hn := toNB c
        have e0 : n = 0 := by omega
        subst e0
        rw [Nat.gcd_zero_right] at hg
        have e2 : (m : Int) = gI t b := by
          unfold gI
          rw [hg]
        obtain ⟨l1, l2⟩ := lowT_divP (t := t) hb
        rw [e2]
        refine ⟨_, rfl, _, rfl, _, _, rfl, rfl, wide_div g0 g1 (by decide) (by decide), _, rfl, _, rfl, _, _, rfl, rfl, wide_div g0 g1 (by decide) (by decide), (by show 2 ≤ sizeLine; decide), fun p hp => ?_⟩
        have := q p hp
        rw [← l1, ← l2] at this
        exact this
    · obtain ⟨v, e, i, j, e1, e2, kk, ek, hq⟩ := hh
      exact ⟨v, e, i, j, e1, e2, kk, ek, m _ _ hq⟩
theorem sc__law_great : FnScope ["_law_well_here", "_law_many", "_law_found", "_law_k"] ["_law_well_here", "_law_many"] (defScope s__law_great) := ⟨rfl, rfl, rfl, by decide +kernel, rfl, by decide +kernel, by decide +kernel⟩
theorem ok__law_great {f : Addr} {fd : FuncData} (F : Fun K "_law_great" "_law_great" s__law_great f fd) (z : Zs mg) (c__law_draw : Cal P w K mg base 1 "_law_draw" ["_law_well_here", "_law_many"] spDraw) : FnOk P w K mg base CX0 2 f fd ["_law_well_here", "_law_many"] spGreat := by
  refine F.ok sc__law_great (fun vs H Q E h => ?_) (fun cdv A outer s H vs Q E hr h => ?_)
  · obtain ⟨a, c, m, rfl, _⟩ := h
    rfl
  · obtain ⟨a, c, m, rfl, hw, hc, m0, m1, q⟩ := h
    refine ⟨_, (pss_cons (ps_set (i := 2) sc__law_great.nd rfl (.inl rfl) pe_int)
      (pss_cons (ps_for PassesOwn.never rfl (pi_range1 (by rfl) z.range (pa_cons (pv 1) pa_nil)) (pg_name (i := 3) sc__law_great.nd rfl (.inl rfl)) (pss_one (ps_set (i := 2) sc__law_great.nd rfl (.inl rfl) (pe_op op_add (pe_op op_mul (pv 2) (pe_op op_pow pe_int pe_int)) (pe_cal c__law_draw hr (pa_cons (pv 0) (pa_cons (pe_op op_pow pe_int pe_int) pa_nil)))))))
      (pss_one (ps_ret (pv 2))))), ?_⟩
    obtain ⟨n, rfl⟩ := Int.eq_ofNat_of_zero_le m0
    refine ⟨_, rfl, n, rfl, by omega, by omega, for_range (n := n) (fun i σ H' => ∃ (v : Int) (y : Option V), σ = [some (.ref a), some (.int n), some (.int v), y] ∧ 0 ≤ v ∧ v < 10 ^ (8 * i) ∧ Drw a H H' ∧ WellAt H' a (c + i)) ⟨0, none, rfl, Int.le_refl _, by decide, Drw.refl a H, hw.mono (by omega)⟩ (fun i σ H2 hi hP => ?_) (fun σ H2 hP => ?_)⟩
    · obtain ⟨v, y, rfl, v0, v1, D2, w2⟩ := hP
      refine ⟨_, rfl, _, _, rfl, rfl, ⟨by decide, by decide, by decide⟩, _, _, rfl, rfl, .inr ⟨by decide, by decide⟩, _, rfl, _, _, rfl, rfl, ⟨by decide, by decide, by decide⟩, a, c + i, _, rfl, w2, by omega, by decide, by decide, fun r H3 r0 r1 d3 d3' w3 => ?_⟩
      refine ⟨_, _, rfl, rfl, ⟨_, _, rfl, ?_, ?_, D2.trans ⟨d3, d3'⟩, w3.mono (by omega)⟩⟩
      · exact Int.add_nonneg (Int.mul_nonneg v0 (by decide)) r0
      · have e8 : (10 : Int) ^ (8 * (i + 1)) = 10 ^ (8 * i) * 100000000 := by
          rw [show 8 * (i + 1) = 8 * i + 8 by omega, Int.pow_add]
          rfl
        rw [e8]
        have h1 : v + 1 ≤ 10 ^ (8 * i) := by omega
        have h2 : (v + 1) * 100000000 ≤ 10 ^ (8 * i) * 100000000 := Int.mul_le_mul_of_nonneg_right h1 (by decide)
        have h3 : r < 100000000 := r1
        show v * 100000000 + r < 10 ^ (8 * i) * 100000000
        omega
    · obtain ⟨v, y, rfl, v0, v1, D2, w2⟩ := hP
      refine ⟨_, rfl, q v H2 v0 (Int.lt_of_lt_of_le v1 ?_) D2 (w2.mono (by omega))⟩
      rcases (by omega : n = 0 ∨ n = 1 ∨ n = 2 ∨ n = 3 ∨ n = 4) with rfl | rfl | rfl | rfl | rfl <;> decide
theorem sc__law_value : FnScope ["_law_well_here", "_law_sort", "_law_sign", "_law_hair", "_law_whole", "_law_bottom"] ["_law_well_here"] (defScope s__law_value) := ⟨rfl, rfl, rfl, by decide +kernel, rfl, by decide +kernel, by decide +kernel⟩
theorem ok__law_value {f : Addr} {fd : FuncData} (F : Fun K "_law_value" "_law_value" s__law_value f fd) (c__law_draw : Cal P w K mg base 1 "_law_draw" ["_law_well_here", "_law_many"] spDraw) (c__law_low : Cal P w K mg base 1 "_law_low" ["_law_top", "_law_bottom"] spLowP) (c__law_great : Cal P w K mg base 2 "_law_great" ["_law_well_here", "_law_many"] spGreat) : FnOk P w K mg base CX0 3 f fd ["_law_well_here"] spValue := by
  refine F.ok sc__law_value (fun vs H Q E h => ?_) (fun cdv A outer s H vs Q E hr h => ?_)
  · obtain ⟨a, c, rfl, _⟩ := h
    rfl
  · obtain ⟨a, c, rfl, hw, hc, q⟩ := h
    refine ⟨_, (pss_cons (ps_set (i := 1) sc__law_value.nd rfl (.inl rfl) (pe_cal c__law_draw hr (pa_cons (pv 0) (pa_cons pe_int pa_nil))))
      (pss_cons (ps_set (i := 2) sc__law_value.nd rfl (.inl rfl) (pe_op op_sub pe_int (pe_op op_mul pe_int (pe_cal c__law_draw hr (pa_cons (pv 0) (pa_cons pe_int pa_nil))))))
      (pss_cons (ps_set (i := 3) sc__law_value.nd rfl (.inl rfl) (pe_op op_sub (pe_cal c__law_draw hr (pa_cons (pv 0) (pa_cons pe_int pa_nil))) pe_int))
      (pss_cons (ps_set (i := 4) sc__law_value.nd rfl (.inl rfl) (pe_cal c__law_draw hr (pa_cons (pv 0) (pa_cons pe_int pa_nil))))
      (pss_cut (ps_if (pt_cmpR op_eq (pe_cal c__law_draw hr (pa_cons (pv 0) (pa_cons pe_int pa_nil))) pe_int (nomark _)) (pss_one (ps_set (i := 4) sc__law_value.nd rfl (.inl rfl) (pe_cal c__law_great hr (pa_cons (pv 0) (pa_cons (pe_op op_add pe_int (pe_cal c__law_draw hr (pa_cons (pv 0) (pa_cons pe_int pa_nil)))) pa_nil))))) pss_nil)
      (pss_cons (ps_if (pt_cmpR op_eq (pv 1) pe_int (nomark _)) (pss_one (ps_ret (pe_tup (pa_cons (pe_op op_mul (pv 2) (pv 4)) (pa_cons pe_int pa_nil))))) pss_nil)
      (pss_cons (ps_if (pt_cmpR op_eq (pv 1) pe_int (nomark _)) (pss_one (ps_ret (pe_tup (pa_cons (pe_op op_mul (pv 2) (pe_op op_add (pe_op op_mul pe_int (pv 4)) pe_int)) (pa_cons pe_int pa_nil))))) pss_nil)
      (pss_cons (ps_set (i := 5) sc__law_value.nd rfl (.inl rfl) (pe_op op_add pe_int (pe_cal c__law_great hr (pa_cons (pv 0) (pa_cons (pe_op op_add pe_int (pe_cal c__law_draw hr (pa_cons (pv 0) (pa_cons pe_int pa_nil)))) pa_nil)))))
      (pss_cons (ps_if (pt_cmpR op_eq (pv 1) pe_int (nomark _)) (pss_one (ps_ret (pe_cal c__law_low hr (pa_cons (pe_op op_mul (pv 2) (pe_op op_add (pe_op op_mulW (pe_op op_add (pe_op op_mul pe_int (pv 4)) pe_int) (pv 5)) (pv 3))) (pa_cons (pe_op op_mul pe_int (pv 5)) pa_nil))))) pss_nil)
      (pss_cons (ps_if (pt_cmpR op_eq (pv 1) pe_int (nomark _)) (pss_one (ps_ret (pe_cal c__law_low hr (pa_cons (pe_op op_mul (pv 2) (pv 4)) (pa_cons (pe_op op_add pe_int (pe_cal c__law_draw hr (pa_cons (pv 0) (pa_cons pe_int pa_nil)))) pa_nil))))) pss_nil)
      (pss_one (ps_ret (pe_cal c__law_low hr (pa_cons (pe_op op_mul (pv 2) (pe_op op_add (pe_op op_mulW (pv 4) (pv 5)) (pe_cal c__law_great hr (pa_cons (pv 0) (pa_cons pe_int pa_nil))))) (pa_cons (pv 5) pa_nil))))))))))))))), ?_⟩
    refine ⟨_, rfl, a, c, 5, rfl, hw, by omega, by decide, by decide, fun r1 H1 r10 r11 d1 d1' w1 => ?_⟩
    refine ⟨_, rfl, a, c + 1, 2, rfl, w1, by omega, by decide, by decide, fun r2 H2 r20 r21 d2 d2' w2 => ⟨_, _, rfl, rfl, .inl ⟨by decide, by decide⟩, _, _, rfl, rfl, ?_⟩⟩
    refine ⟨_, rfl, a, c + 1 + 1, 3, rfl, w2, by omega, by decide, by decide, fun r3 H3 r30 r31 d3 d3' w3 => ⟨_, _, rfl, rfl, ?_⟩⟩
    refine ⟨_, rfl, a, c + 1 + 1 + 1, 12, rfl, w3, by omega, by decide, by decide, fun r4 H4 r40 r41 d4 d4' w4 => ?_⟩
    have D4 : Drw a H H4 := ((Drw.trans ⟨d1, d1'⟩ ⟨d2, d2'⟩).trans ⟨d3, d3'⟩).trans ⟨d4, d4'⟩
    clear d1 d1' d2 d2' d3 d3' d4 d4' w1 w2 w3
    have sg : (1 - 2 * r2).natAbs < 2 ^ 1 := by omega
    have hr : (r3 - 1).natAbs < 2 ^ 2 := by omega
    refine ⟨fun σ H' => ∃ wh : Int, σ = [some (.ref a), some (.int r1), some (.int (1 - 2 * r2)), some (.int (r3 - 1)), some (.int wh), none] ∧ 0 ≤ wh ∧ wh < 100000000000000000000000000000000 ∧ Drw a H H' ∧ WellAt H' a (c + 10), ?_, fun σ H' hM => ?_⟩
    · refine ⟨_, rfl, a, c + 1 + 1 + 1 + 1, 3, rfl, w4, by omega, by decide, by decide, fun r5 H5 r50 r51 d5 d5' w5 => ⟨rfl, _, rfl, ite2 (fun _ => ?_) (fun _ => ?_)⟩⟩
      · refine ⟨_, rfl, _, rfl, a, c + 1 + 1 + 1 + 1 + 1, 4, rfl, w5, by omega, by decide, by decide, fun r6 H6 r60 r61 d6 d6' w6 => ⟨_, _, rfl, rfl, a, c + 1 + 1 + 1 + 1 + 1 + 1, 1 + r6, rfl, w6, by omega, by omega, by omega, fun r7 H7 r70 r71 d7 w7 => ?_⟩⟩
        exact ⟨r7, rfl, r70, r71, ((D4.trans ⟨d5, d5'⟩).trans ⟨d6, d6'⟩).trans d7, w7.mono (by omega)⟩
      · exact ⟨r4, rfl, r40, by omega, D4.trans ⟨d5, d5'⟩, w5.mono (by omega)⟩
    obtain ⟨wh, rfl, wh0, wh1, D5, W5⟩ := hM
    clear D4 w4
    have bw : wh.natAbs < 2 ^ 107 := by omega
    have bw2 : (2 * wh + 1).natAbs < 2 ^ 108 := by omega
    refine ⟨_, rfl, rfl, _, rfl, ite2 (fun _ => ?_) (fun _ => ?_)⟩
    · refine ⟨_, rfl, _, rfl, _, _, rfl, rfl, .inl ⟨by omega, by omega⟩, (by show 2 ≤ sizeLine; decide), fun p hp => ?_⟩
      exact q _ _ p _ (by decide) (up (wide_lt sg bw) (by decide)) (by decide) (D5.but.trans (SameBut.of (same_new hp))) upd_same ((W5.same (same_new hp)).mono (by omega))
    refine ⟨_, rfl, rfl, _, rfl, ite2 (fun _ => ?_) (fun _ => ?_)⟩
    · refine ⟨_, rfl, _, rfl, _, _, rfl, rfl, .inl ⟨by decide, by decide⟩, _, _, rfl, rfl, _, _, rfl, rfl, .inl ⟨by omega, by omega⟩, (by show 2 ≤ sizeLine; decide), fun p hp => ?_⟩
      exact q _ _ p _ (by decide) (up (wide_lt sg bw2) (by decide)) (by decide) (D5.but.trans (SameBut.of (same_new hp))) upd_same ((W5.same (same_new hp)).mono (by omega))
    refine ⟨_, rfl, _, rfl, a, c + 10, 4, rfl, W5, by omega, by decide, by decide, fun r6 H6 r60 r61 d6 d6' w6 => ⟨_, _, rfl, rfl, a, c + 10 + 1, 1 + r6, rfl, w6, by omega, by omega, by omega, fun r7 H7 r70 r71 d7 w7 => ⟨_, _, rfl, rfl, ?_⟩⟩⟩
    have D7 : Drw a H H7 := (D5.trans ⟨d6, d6'⟩).trans d7
    clear D5 d6 d6' d7
    have bb : (2 + r7).natAbs < 2 ^ 107 := by omega
    have bb0 : 0 < 2 + r7 := by omega
    refine ⟨_, rfl, rfl, _, rfl, ite2 (fun _ => ?_) (fun _ => ?_)⟩
    · refine ⟨_, rfl, _, rfl, _, _, rfl, rfl, .inl ⟨by decide, by decide⟩, _, _, rfl, rfl, _, rfl, _, _, rfl, rfl, wide_mul bw2 bb (by decide) (by decide) (by decide), _, rfl, _, _, rfl, rfl, _, _, rfl, rfl, .inl ⟨by omega, by omega⟩, _, rfl, _, _, rfl, rfl, .inl ⟨by decide, by decide⟩, _, 2 * (2 + r7), rfl, by omega, up (show (2 * (2 + r7)).natAbs < 2 ^ 108 by omega) (by decide), fun p hp => ?_⟩
      have b1 := add_lt (up (wide_lt bw2 bb) (show 108 + 107 ≤ 300 by decide)) (up hr (show 2 ≤ 300 by decide))
      exact q _ _ p _ (low_pos' (by omega)) (up2 lowT_le (wide_lt sg b1) (by decide)) (up2 lowB_le (show (2 * (2 + r7)).natAbs < 2 ^ 108 by omega) (by decide)) (D7.but.trans (SameBut.of (same_new hp))) upd_same ((w7.same (same_new hp)).mono (by omega))
    refine ⟨_, rfl, rfl, _, rfl, ite2 (fun _ => ?_) (fun _ => ?_)⟩
    · refine ⟨_, rfl, _, rfl, _, _, rfl, rfl, .inl ⟨by omega, by omega⟩, _, rfl, a, c + 10 + 1 + 4, 64, rfl, w7, by omega, by decide, by decide, fun r8 H8 r80 r81 d8 d8' w8 => ⟨_, _, rfl, rfl, _, 1 + r8, rfl, by omega, up (show (1 + r8).natAbs < 2 ^ 8 by omega) (by decide), fun p hp => ?_⟩⟩
      exact q _ _ p _ (low_pos' (by omega)) (up2 lowT_le (wide_lt sg bw) (by decide)) (up2 lowB_le (show (1 + r8).natAbs < 2 ^ 8 by omega) (by decide)) ((D7.but.trans d8).trans (SameBut.of (same_new hp))) upd_same ((w8.same (same_new hp)).mono (by omega))
    · refine ⟨_, rfl, _, rfl, _, rfl, _, _, rfl, rfl, wide_mul bw bb (by decide) (by decide) (by decide), _, rfl, a, c + 10 + 1 + 4, 4, rfl, w7, by omega, by decide, by decide, fun r8 H8 r80 r81 d8 w8 => ⟨_, _, rfl, rfl, _, _, rfl, rfl, .inl ⟨by omega, by omega⟩, _, rfl, _, 2 + r7, rfl, by omega, up bb (by decide), fun p hp => ?_⟩⟩
      have b1 := add_lt (up (wide_lt bw bb) (show 107 + 107 ≤ 300 by decide)) (up (show r8.natAbs < 2 ^ 107 by omega) (show 107 ≤ 300 by decide))
      exact q _ _ p _ (low_pos' (by omega)) (up2 lowT_le (wide_lt sg b1) (by decide)) (up2 lowB_le bb (by decide)) ((D7.but.trans d8.but).trans (SameBut.of (same_new hp))) upd_same ((w8.same (same_new hp)).mono (by omega))
theorem sc__law_near : FnScope ["_law_top", "_law_bottom", "_law_found", "_law_style", "_law_away"] ["_law_top", "_law_bottom", "_law_found", "_law_style"] (defScope s__law_near) := ⟨rfl, rfl, rfl, by decide +kernel, rfl, by decide +kernel, by decide +kernel⟩
theorem ok__law_near {f : Addr} {fd : FuncData} {k : Nat} (F : Fun K "_law_near" "_law_near" s__law_near f fd) (z : Zs mg) : FnOk P w K mg base CX0 (k + 1) f fd ["_law_top", "_law_bottom", "_law_found", "_law_style"] spNear := by
  refine F.ok sc__law_near (fun vs H Q E h => ?_) (fun cdv A outer s H vs Q E hr h => ?_)
  · obtain ⟨t, b, m, rfl, _⟩ := h
    rfl
  · obtain ⟨t, b, m, rfl, hm, hb, ht, hl, q⟩ := h
    refine ⟨_, (pss_cons (ps_set (i := 4) sc__law_near.nd rfl (.inl rfl) (pe_op op_mul pe_int (pe_op op_sub (pv 0) (pe_op op_mulW (pv 2) (pv 1)))))
      (pss_cons (ps_if (pt_cmpR op_ne (pe_callB call_abs (by rfl) z.abs (by decide +kernel) (pa_cons (pv 4) pa_nil)) (pv 1) (nomark _)) (pss_one (ps_ret (pe_cmpR op_lt (pe_callB call_abs (by rfl) z.abs (by decide +kernel) (pa_cons (pv 4) pa_nil)) (pv 1) (nomark _)))) pss_nil)
      (pss_cons (ps_if (pt_cmpR op_eq (pv 3) pe_str (nomark _)) (pss_one (ps_ret (pe_cmpR op_lt (pv 4) pe_int (nomark _)))) pss_nil)
      (pss_cons (ps_if (pt_cmpR op_eq (pv 3) pe_str (nomark _)) (pss_one (ps_ret (pe_cmpR op_eq (pe_op op_mod (pv 2) pe_int) pe_int (nomark _)))) pss_nil)
      (pss_one (ps_ret (pe_cmpR op_gt (pe_op op_mulW (pe_callB call_abs (by rfl) z.abs (by decide +kernel) (pa_cons (pv 2) pa_nil)) (pv 1)) (pe_callB call_abs (by rfl) z.abs (by decide +kernel) (pa_cons (pv 0) pa_nil)) (nomark _)))))))), ?_⟩
    have hn := r_near (t := t) hb m hm
    have hf := f_le m hb ht hl
    generalize m.f t b = f at *
    unfold aI at hn
    obtain ⟨hn1, hn2⟩ := hn
    refine ⟨_, rfl, _, rfl, _, rfl, _, _, rfl, rfl, wide_mul hf hl (by decide) (by decide) (by decide), _, _, rfl, rfl, _, _, rfl, rfl, .inl ⟨by decide, by decide⟩, ?_⟩
    refine ⟨_, rfl, _, rfl, _, rfl, rfl, _, rfl, ?_⟩
    by_cases h2 : (if 2 * (t - f * b) < 0 then -(2 * (t - f * b)) else 2 * (t - f * b)) = b
    · refine iteC (c := !decide (V.int (if 2 * (t - f * b) < 0 then -(2 * (t - f * b)) else 2 * (t - f * b)) = V.int b)) (d := false) (by rw [decide_eq_true (congrArg V.int h2)]; rfl) (iteF ?_)
      obtain ⟨g1, g2, g3⟩ := hn2 h2
      rcases hm with rfl | rfl | rfl
      · refine ⟨_, rfl, rfl, _, rfl, ?_⟩
        rw [show (decide (V.str (Mn.str .half) = V.str "half")) = true from by decide +kernel]
        refine iteT ⟨_, rfl, _, _, rfl, rfl, ?_⟩
        exact qt (Q := Q) (g1 rfl) q
      · refine ⟨_, rfl, rfl, _, rfl, ?_⟩
        rw [show (decide (V.str (Mn.str .even) = V.str "half")) = false from by decide +kernel]
        refine iteF ⟨_, rfl, rfl, _, rfl, ?_⟩
        rw [show (decide (V.str (Mn.str .even) = V.str "even")) = true from by decide +kernel]
        refine iteT ⟨_, rfl, _, _, rfl, rfl, (by show (0 : Int) < 2; decide), rfl, ?_⟩
        exact qt (Q := Q) (p := V.int (f % 2) = V.int 0) (congrArg V.int (g2 rfl)) q
      · refine ⟨_, rfl, rfl, _, rfl, ?_⟩
        rw [show (decide (V.str (Mn.str .far) = V.str "half")) = false from by decide +kernel]
        refine iteF ⟨_, rfl, rfl, _, rfl, ?_⟩
        rw [show (decide (V.str (Mn.str .far) = V.str "even")) = false from by decide +kernel]
        refine iteF ⟨_, rfl, _, rfl, _, rfl, _, _, rfl, rfl, wide_mul (by rw [ab_abs]; exact hf) hl (by decide) (by decide) (by decide), _, rfl, _, rfl, _, _, rfl, rfl, ?_⟩
        exact qt (Q := Q) (g3 rfl) q
    · refine iteC (c := !decide (V.int (if 2 * (t - f * b) < 0 then -(2 * (t - f * b)) else 2 * (t - f * b)) = V.int b)) (d := true) (by rw [decide_eq_false (fun z => h2 (V.int.inj z))]; rfl) (iteT ?_)
      refine ⟨_, rfl, _, rfl, _, rfl, _, _, rfl, rfl, ?_⟩
      exact qt (Q := Q) (show (if 2 * (t - f * b) < 0 then -(2 * (t - f * b)) else 2 * (t - f * b)) < b by omega) q
theorem sc__law_right : FnScope ["_law_top", "_law_bottom", "_law_found", "_law_style"] ["_law_top", "_law_bottom", "_law_found", "_law_style"] (defScope s__law_right) := ⟨rfl, rfl, rfl, by decide +kernel, rfl, by decide +kernel, by decide +kernel⟩
theorem ok__law_right {f : Addr} {fd : FuncData} (F : Fun K "_law_right" "_law_right" s__law_right f fd) (z : Zs mg) (c__law_near : Cal P w K mg base 1 "_law_near" ["_law_top", "_law_bottom", "_law_found", "_law_style"] spNear) : FnOk P w K mg base CX0 2 f fd ["_law_top", "_law_bottom", "_law_found", "_law_style"] spRight := by
  refine F.ok sc__law_right (fun vs H Q E h => ?_) (fun cdv A outer s H vs Q E hr h => ?_)
  · obtain ⟨t, b, m, rfl, _⟩ := h
    rfl
  · obtain ⟨t, b, m, rfl, hb, ht, hl, q⟩ := h
    refine ⟨_, (pss_cons (ps_if (PW.pt (pw_or (pt_not (pt_val (pe_callB call_isi (by rfl) z.isinstance (by decide +kernel) (pa_cons (pv 2) (pa_cons (pe_bltn (v := .ty "int") (by rfl) z.int (by decide +kernel) rfl) pa_nil))))) (pw_or1 (pt_val (pe_callB call_isi (by rfl) z.isinstance (by decide +kernel) (pa_cons (pv 2) (pa_cons (pe_bltn (v := .ty "bool") (by rfl) z.bool (by decide +kernel) rfl) pa_nil))))))) (pss_one (ps_ret pe_bl)) pss_nil)
      (pss_cons (ps_if (pt_cmpR op_eq (pv 3) pe_str (nomark _)) (pss_one (ps_ret (pe_chain op_le op_lt (pe_op op_mulW (pv 2) (pv 1)) (pv 0) (pe_op op_mulW (pe_op op_add (pv 2) pe_int) (pv 1))))) pss_nil)
      (pss_cons (ps_if (pt_cmpR op_eq (pv 3) pe_str (nomark _)) (pss_one (ps_ret (pe_chain op_lt op_le (pe_op op_mulW (pe_op op_sub (pv 2) pe_int) (pv 1)) (pv 0) (pe_op op_mulW (pv 2) (pv 1))))) pss_nil)
      (pss_cons (ps_if (pt_cmpR op_eq (pv 3) pe_str (nomark _)) (pss_one (ps_ret (pe_and (pe_chain op_le op_lt (pe_op op_mulW (pe_callB call_abs (by rfl) z.abs (by decide +kernel) (pa_cons (pv 2) pa_nil)) (pv 1)) (pe_callB call_abs (by rfl) z.abs (by decide +kernel) (pa_cons (pv 0) pa_nil)) (pe_op op_mulW (pe_op op_add (pe_callB call_abs (by rfl) z.abs (by decide +kernel) (pa_cons (pv 2) pa_nil)) pe_int) (pv 1))) (pe_one (pe_cmpR op_ge (pe_op op_mulW (pv 2) (pv 0)) pe_int (nomark _)))))) pss_nil)
      (pss_cons (ps_if (pt_cmpR op_eq (pv 3) pe_str (nomark _)) (pss_one (ps_ret (pe_and (pe_chain op_lt op_le (pe_op op_mulW (pe_op op_sub (pe_callB call_abs (by rfl) z.abs (by decide +kernel) (pa_cons (pv 2) pa_nil)) pe_int) (pv 1)) (pe_callB call_abs (by rfl) z.abs (by decide +kernel) (pa_cons (pv 0) pa_nil)) (pe_op op_mulW (pe_callB call_abs (by rfl) z.abs (by decide +kernel) (pa_cons (pv 2) pa_nil)) (pv 1))) (pe_one (pe_cmpR op_ge (pe_op op_mulW (pv 2) (pv 0)) pe_int (nomark _)))))) pss_nil)
      (pss_one (ps_ret (pe_cal c__law_near hr (pa_cons (pv 0) (pa_cons (pv 1) (pa_cons (pv 2) (pa_cons (pv 3) pa_nil)))))))))))), ?_⟩
    have hf := f_le m hb ht hl
    generalize hfe : m.f t b = f at *
    refine ⟨_, rfl, _, .ty "int", _, _, true, rfl, .ty _, .base (.int _), kit_ty (by decide +kernel), _, rfl, iteF ⟨_, rfl, _, .ty "bool", _, _, false, rfl, .ty _, .base (.int _), kit_ty (by decide +kernel), _, rfl, iteF ?_⟩⟩
    cases m with
    | down =>
      refine ⟨_, rfl, rfl, _, rfl, ?_⟩
      rw [show (decide (V.str (Mn.str .down) = V.str "down")) = true from by decide +kernel]
      have e : fDown t b = f := hfe
      have h := r_down (t := t) hb
      rw [e] at h
      refine iteT ⟨_, rfl, _, rfl, _, _, rfl, rfl, wide_mul hf hl (by decide) (by decide) (by decide), _, rfl, _, _, rfl, rfl, _, rfl, ?_⟩
      rw [decide_eq_true h.1]
      refine iteT ⟨_, rfl, _, _, rfl, rfl, _, rfl, _, _, rfl, rfl, wide_mul (nb hf (by omega)) hl (by decide) (by decide) (by decide), _, _, rfl, rfl, ?_⟩
      exact qt (Q := Q) h.2 q
    | up =>
      refine ⟨_, rfl, rfl, _, rfl, ?_⟩
      rw [show (decide (V.str (Mn.str .up) = V.str "down")) = false from by decide +kernel]
      refine iteF ?_
      refine ⟨_, rfl, rfl, _, rfl, ?_⟩
      rw [show (decide (V.str (Mn.str .up) = V.str "up")) = true from by decide +kernel]
      have e : fUp t b = f := hfe
      have h := r_up (t := t) hb
      rw [e] at h
      refine iteT ⟨_, rfl, _, _, rfl, rfl, _, rfl, _, _, rfl, rfl, wide_mul (nb hf (by omega)) hl (by decide) (by decide) (by decide), _, rfl, _, _, rfl, rfl, _, rfl, ?_⟩
      rw [decide_eq_true h.1]
      refine iteT ⟨_, rfl, _, rfl, _, _, rfl, rfl, wide_mul hf hl (by decide) (by decide) (by decide), _, _, rfl, rfl, ?_⟩
      exact qt (Q := Q) h.2 q
    | inn =>
      refine ⟨_, rfl, rfl, _, rfl, ?_⟩
      rw [show (decide (V.str (Mn.str .inn) = V.str "down")) = false from by decide +kernel]
      refine iteF ?_
      refine ⟨_, rfl, rfl, _, rfl, ?_⟩
      rw [show (decide (V.str (Mn.str .inn) = V.str "up")) = false from by decide +kernel]
      refine iteF ?_
      refine ⟨_, rfl, rfl, _, rfl, ?_⟩
      rw [show (decide (V.str (Mn.str .inn) = V.str "in")) = true from by decide +kernel]
      have e : fIn t b = f := hfe
      have h := r_in (t := t) hb
      rw [e] at h
      unfold aI at h
      obtain ⟨g1, g2, g3⟩ := h
      refine iteT ⟨_, rfl, _, rfl, _, rfl, _, _, rfl, rfl, wide_mul (by rw [ab_abs]; exact hf) hl (by decide) (by decide) (by decide), _, rfl, _, rfl, _, _, rfl, rfl, _, rfl, ?_⟩
      rw [decide_eq_true g1]
      refine iteT ⟨_, rfl, _, rfl, _, _, rfl, rfl, _, rfl, _, _, rfl, rfl, wide_mul (nb hf (by split <;> omega)) hl (by decide) (by decide) (by decide), _, _, rfl, rfl, _, rfl, ?_⟩
      rw [decide_eq_true g2]
      refine iteT ⟨_, rfl, _, rfl, _, _, rfl, rfl, wide_mul hf ht (by decide) (by decide) (by decide), _, _, rfl, rfl, ?_⟩
      exact qt (Q := Q) g3 q
    | out =>
      refine ⟨_, rfl, rfl, _, rfl, ?_⟩
      rw [show (decide (V.str (Mn.str .out) = V.str "down")) = false from by decide +kernel]
      refine iteF ?_
      refine ⟨_, rfl, rfl, _, rfl, ?_⟩
      rw [show (decide (V.str (Mn.str .out) = V.str "up")) = false from by decide +kernel]
      refine iteF ?_
      refine ⟨_, rfl, rfl, _, rfl, ?_⟩
      rw [show (decide (V.str (Mn.str .out) = V.str "in")) = false from by decide +kernel]
      refine iteF ?_
      refine ⟨_, rfl, rfl, _, rfl, ?_⟩
      rw [show (decide (V.str (Mn.str .out) = V.str "out")) = true from by decide +kernel]
      have e : fOut t b = f := hfe
      have h := r_out (t := t) hb
      rw [e] at h
      unfold aI at h
      obtain ⟨g1, g2, g3⟩ := h
      refine iteT ⟨_, rfl, _, rfl, _, _, rfl, rfl, _, rfl, _, _, rfl, rfl, wide_mul (nb hf (by split <;> omega)) hl (by decide) (by decide) (by decide), _, rfl, _, rfl, _, _, rfl, rfl, _, rfl, ?_⟩
      rw [decide_eq_true g1]
      refine iteT ⟨_, rfl, _, rfl, _, rfl, _, _, rfl, rfl, wide_mul (by rw [ab_abs]; exact hf) hl (by decide) (by decide) (by decide), _, _, rfl, rfl, _, rfl, ?_⟩
      rw [decide_eq_true g2]
      refine iteT ⟨_, rfl, _, rfl, _, _, rfl, rfl, wide_mul hf ht (by decide) (by decide) (by decide), _, _, rfl, rfl, ?_⟩
      exact qt (Q := Q) g3 q
    | half =>
      refine ⟨_, rfl, rfl, _, rfl, ?_⟩
      rw [show (decide (V.str (Mn.str .half) = V.str "down")) = false from by decide +kernel]
      refine iteF ?_
      refine ⟨_, rfl, rfl, _, rfl, ?_⟩
      rw [show (decide (V.str (Mn.str .half) = V.str "up")) = false from by decide +kernel]
      refine iteF ?_
      refine ⟨_, rfl, rfl, _, rfl, ?_⟩
      rw [show (decide (V.str (Mn.str .half) = V.str "in")) = false from by decide +kernel]
      refine iteF ?_
      refine ⟨_, rfl, rfl, _, rfl, ?_⟩
      rw [show (decide (V.str (Mn.str .half) = V.str "out")) = false from by decide +kernel]
      refine iteF ?_
      exact ⟨_, rfl, _, rfl, _, rfl, _, rfl, t, b, .half, by rw [hfe]; rfl, by simp, hb, ht, hl, q⟩
    | even =>
      refine ⟨_, rfl, rfl, _, rfl, ?_⟩
      rw [show (decide (V.str (Mn.str .even) = V.str "down")) = false from by decide +kernel]
      refine iteF ?_
      refine ⟨_, rfl, rfl, _, rfl, ?_⟩
      rw [show (decide (V.str (Mn.str .even) = V.str "up")) = false from by decide +kernel]
      refine iteF ?_
      refine ⟨_, rfl, rfl, _, rfl, ?_⟩
      rw [show (decide (V.str (Mn.str .even) = V.str "in")) = false from by decide +kernel]
      refine iteF ?_
      refine ⟨_, rfl, rfl, _, rfl, ?_⟩
      rw [show (decide (V.str (Mn.str .even) = V.str "out")) = false from by decide +kernel]
      refine iteF ?_
      exact ⟨_, rfl, _, rfl, _, rfl, _, rfl, t, b, .even, by rw [hfe]; rfl, by simp, hb, ht, hl, q⟩
    | far =>
      refine ⟨_, rfl, rfl, _, rfl, ?_⟩
      rw [show (decide (V.str (Mn.str .far) = V.str "down")) = false from by decide +kernel]
      refine iteF ?_
      refine ⟨_, rfl, rfl, _, rfl, ?_⟩
      rw [show (decide (V.str (Mn.str .far) = V.str "up")) = false from by decide +kernel]
      refine iteF ?_
      refine ⟨_, rfl, rfl, _, rfl, ?_⟩
      rw [show (decide (V.str (Mn.str .far) = V.str "in")) = false from by decide +kernel]
      refine iteF ?_
      refine ⟨_, rfl, rfl, _, rfl, ?_⟩
      rw [show (decide (V.str (Mn.str .far) = V.str "out")) = false from by decide +kernel]
      refine iteF ?_
      exact ⟨_, rfl, _, rfl, _, rfl, _, rfl, t, b, .far, by rw [hfe]; rfl, by simp, hb, ht, hl, q⟩

end
end E1

namespace E1
open PySem PySem.Spec PyProof.Rows L2

def spLaw (K : PySem.W.Frag) : Sp := fun vs H Q _ => ∃ (a : Addr) (ns : List Int), vs = [.ref a] ∧ SqL K H a (ns.map V.int) ∧ ns.length ≤ 63 ∧ ∀ H', Q (.bl true) H'
theorem seven {i : Nat} {x : V} (h : [V.str "down", V.str "up", V.str "in", V.str "out", V.str "half", V.str "even", V.str "far"][i]? = some x) : ∃ m : Mn, x = .str m.str := by
  have h1 := List.mem_of_getElem? h
  simp only [List.mem_cons, List.not_mem_nil, or_false] at h1
  rcases h1 with rfl | rfl | rfl | rfl | rfl | rfl | rfl
  · exact ⟨.down, rfl⟩
  · exact ⟨.up, rfl⟩
  · exact ⟨.inn, rfl⟩
  · exact ⟨.out, rfl⟩
  · exact ⟨.half, rfl⟩
  · exact ⟨.even, rfl⟩
  · exact ⟨.far, rfl⟩
/-- texts that are no manner -/
structure Bads (K : PySem.W.Frag) (dM : Addr) : Prop where
  b0 : PySem.W.nsIn K dM "" = some none
  b1 : PySem.W.nsIn K dM "Down" = some none
  b2 : PySem.W.nsIn K dM "down " = some none
  b3 : PySem.W.nsIn K dM "near" = some none
  b4 : PySem.W.nsIn K dM "none" = some none
  b5 : PySem.W.nsIn K dM "halfs" = some none
  b6 : PySem.W.nsIn K dM "in out" = some none
theorem notS {K : PySem.W.Frag} {H : Hp} {dM : Addr} {y : Str} (h : PySem.W.nsIn K dM y = some none) : NotM K H dM (.str y) := fun _ _ => .inr (.inl ⟨y, rfl, h, rfl⟩)
theorem notT {K : PySem.W.Frag} {H : Hp} {dM : Addr} {x : V} {t : String} (ty : ∀ H', Same H H' → TyX K H' x (.type t)) (k : kitB t "str" = some false) : NotM K H dM x := fun H' s => .inr (.inr ⟨rfl, t, ty H' s, k⟩)
theorem pick13 {K : PySem.W.Frag} {H : Hp} {dM l1 l2 l3 : Addr} {x1 x2 : List V} {kv : List (Key × V)} {r : Int} (B : Bads K dM) (h0 : 0 ≤ r) (h1 : r < 13) (e1 : H l1 = some (.lst x1)) (e2 : H l2 = some (.tup x2)) (e3 : H l3 = some (.dK kv)) :
    ∃ v, atI [V.str "", V.str "Down", V.str "down ", V.str "near", V.str "none", V.str "halfs", V.non, V.bl true, V.int 0, V.ref l1, V.ref l2, V.ref l3, V.str "in out"] r = some v ∧ NotM K H dM v := by
  rcases (by omega : r = 0 ∨ r = 1 ∨ r = 2 ∨ r = 3 ∨ r = 4 ∨ r = 5 ∨ r = 6 ∨ r = 7 ∨ r = 8 ∨ r = 9 ∨ r = 10 ∨ r = 11 ∨ r = 12) with rfl | rfl | rfl | rfl | rfl | rfl | rfl | rfl | rfl | rfl | rfl | rfl | rfl
  · exact ⟨_, rfl, notS B.b0⟩
  · exact ⟨_, rfl, notS B.b1⟩
  · exact ⟨_, rfl, notS B.b2⟩
  · exact ⟨_, rfl, notS B.b3⟩
  · exact ⟨_, rfl, notS B.b4⟩
  · exact ⟨_, rfl, notS B.b5⟩
  · exact ⟨_, rfl, notT (t := "NoneType") (fun _ _ => .base .non) (by decide +kernel)⟩
  · exact ⟨_, rfl, notT (t := "bool") (fun _ _ => .base (.bl _)) (by decide +kernel)⟩
  · exact ⟨_, rfl, notT (t := "int") (fun _ _ => .base (.int _)) (by decide +kernel)⟩
  · exact ⟨_, rfl, notT (t := "list") (fun _ s => .base (.lst (s _ _ e1))) (by decide +kernel)⟩
  · exact ⟨_, rfl, notT (t := "tuple") (fun _ s => .base (.tup (s _ _ e2))) (by decide +kernel)⟩
  · exact ⟨_, rfl, notT (t := "dict") (fun _ s => .base (.dK (s _ _ e3))) (by decide +kernel)⟩
  · exact ⟨_, rfl, notS B.b6⟩
theorem eqv2 (a b : Int) : PyData.eqv (.tuple [.int a, .int b]) (.tuple [.int a, .int b]) = true := SeqAt.eqv_refl _ (by rfl)
theorem NotM.mono {K : PySem.W.Frag} {H H1 : Hp} {dM : Addr} {x : V} (h : NotM K H dM x) (s : Same H H1) : NotM K H1 dM x := fun H' s' => h H' (s.trans s')
section
variable {P : Program} {w : World} {K : PySem.W.Frag} {mg : Str → Option Value} {base : Heap}
theorem sc_law : FnScope ["_law_script", "_law_well_here", "_law_top", "_law_bottom", "_law_amount", "_law_style", "_law_some"] ["_law_script"] (defScope s_law) := ⟨rfl, rfl, rfl, by decide +kernel, rfl, by decide +kernel, by decide +kernel⟩
theorem ok_law {f : Addr} {fd : FuncData} {dM CB : Addr} (F : Fun K "law" "law" s_law f fd) (z : Zs mg) (B : Bads K dM) (c__law_cell_at : Cal P w K mg base 1 "_law_cell_at" ["_law_script", "_law_k"] (spCell K)) (c__law_well : Cal P w K mg base 1 "_law_well" ["_law_cell"] spWell) (c__law_draw : Cal P w K mg base 1 "_law_draw" ["_law_well_here", "_law_many"] spDraw) (c__law_value : Cal P w K mg base 3 "_law_value" ["_law_well_here"] spValue) (c__law_right : Cal P w K mg base 2 "_law_right" ["_law_top", "_law_bottom", "_law_found", "_law_style"] spRight) (c__law_refused : Cal P w K mg base 4 "_law_refused" ["_law_style"] (spRefused K dM)) (c_rounded : CalX P w K mg base 3 "rounded" ["value", "manner"] [] (spRoundedX K dM CB)) (c_rounded_1 : CalX P w K mg base 3 "rounded" ["value", "manner"] [V.str "half"] (spRoundedX K dM CB)) (c_rounded_0_manner_value : CalXK P w K mg base 3 "rounded" ["value", "manner"] 0 ["manner", "value"] (fun vs zs => vs ++ zs.reverse) (spRoundedX K dM CB)) : FnOk P w K mg base CX0 5 f fd ["_law_script"] (spLaw K) := by
  refine F.ok sc_law (fun vs H Q E h => ?_) (fun cdv A outer s H vs Q E hr h => ?_)
  · obtain ⟨a, ns, rfl, _⟩ := h
    rfl
  · obtain ⟨as, ns, rfl, hS, hlen, q⟩ := h
    refine ⟨_, (pss_cons (ps_set (i := 1) sc_law.nd rfl (.inl rfl) (pe_cal c__law_well hr (pa_cons (pe_cal c__law_cell_at hr (pa_cons (pv 0) (pa_cons pe_int pa_nil))) pa_nil)))
      (pss_cons (ps_asg (pe_cal c__law_value hr (pa_cons (pv 1) pa_nil)) (pg_tup (by rfl) (pgs_cons (pg_name (i := 2) sc_law.nd rfl (.inl rfl)) (pgs_cons (pg_name (i := 3) sc_law.nd rfl (.inl rfl)) pgs_nil))))
      (pss_cons (ps_set (i := 4) sc_law.nd rfl (.inl rfl) (pe_tup (pa_cons (pv 2) (pa_cons (pv 3) pa_nil))))
      (pss_cons (ps_for PassesOwn.never rfl (pi_list (pe_lst (pa_cons pe_str (pa_cons pe_str (pa_cons pe_str (pa_cons pe_str (pa_cons pe_str (pa_cons pe_str (pa_cons pe_str pa_nil))))))))) (pg_name (i := 5) sc_law.nd rfl (.inl rfl)) (pss_cons (ps_if (pt_not (pt_val (pe_cal c__law_right hr (pa_cons (pv 2) (pa_cons (pv 3) (pa_cons (pe_calx c_rounded hr (pa_cons (pv 4) (pa_cons (pv 5) pa_nil))) (pa_cons (pv 5) pa_nil))))))) (pss_one (ps_ret pe_bl)) pss_nil)
      (pss_one (ps_if (PW.pt (pw_or (pt_cmpR op_ne (pe_calkx0 c_rounded_0_manner_value hr (pk_cons (pv 5) (pk_cons (pv 4) pk_nil))) (pe_calx c_rounded hr (pa_cons (pv 4) (pa_cons (pv 5) pa_nil))) (nomark _)) (pw_or1 (pt_cmpR (op_neD hr.units) (pv 4) (pe_tup (pa_cons (pv 2) (pa_cons (pv 3) pa_nil))) (nomark _))))) (pss_one (ps_ret pe_bl)) pss_nil))))
      (pss_cons (ps_if (pt_cmpR op_ne (pe_calx c_rounded_1 hr (pa_cons (pv 4) pa_nil)) (pe_calx c_rounded hr (pa_cons (pv 4) (pa_cons pe_str pa_nil))) (nomark _)) (pss_one (ps_ret pe_bl)) pss_nil)
      (pss_cons (ps_set (i := 6) sc_law.nd rfl (.inl rfl) (pe_lst (pa_cons pe_str (pa_cons pe_str (pa_cons pe_str (pa_cons pe_str (pa_cons pe_str (pa_cons pe_str (pa_cons pe_non (pa_cons pe_bl (pa_cons pe_int (pa_cons (pe_lst (pa_cons pe_str pa_nil)) (pa_cons (pe_tup (pa_cons pe_str pa_nil)) (pa_cons pe_dnewK (pa_cons pe_str pa_nil)))))))))))))))
      (pss_one (ps_ret (pe_and (pe_cal c__law_refused hr (pa_cons (pe_ix ix_list (pv 6) (pe_cal c__law_draw hr (pa_cons (pv 1) (pa_cons pe_int pa_nil))) (fun _ _ => rfl)) pa_nil)) (pe_one (pe_cal c__law_refused hr (pa_cons (pe_ix ix_list (pv 6) (pe_op op_mod (pe_cal c__law_cell_at hr (pa_cons (pv 0) (pa_cons pe_int pa_nil))) pe_int) (fun _ _ => rfl)) pa_nil)))))))))))), ?_⟩
    refine ⟨_, rfl, as, ns, 0, rfl, hS, _, rfl, fun w1 hw1 H1 s1 k1 => ?_⟩
    refine ⟨_, rfl, w1, 0, rfl, k1, by decide, fun t b p H2 b0 bt bb sb2 hp wl2 => ⟨p, _, rfl, SqT.of hp, rfl, _, _, rfl, _, _, rfl, rfl, ?_⟩⟩
    have s2 : Same H H2 := same_but s1 sb2 hw1
    refine ⟨_, rfl, _, rfl, (by show 2 ≤ sizeLine; decide), fun pa hpa => ?_⟩
    have s3 := same_new (o := .tup [.int t, .int b]) hpa
    refine ⟨(by show 7 ≤ sizeLine; decide), fun l hl => ⟨l, rfl, ⟨_, SqL.of upd_same⟩, for_list (xs := [V.str "down", V.str "up", V.str "in", V.str "out", V.str "half", V.str "even", V.str "far"]) (fun i σ H' => ∃ y : Option V, σ = [some (.ref as), some (.ref w1), some (.int t), some (.int b), some (.ref pa), y, none] ∧ Same (upd (upd H2 pa (.tup [.int t, .int b])) l (.lst [V.str "down", V.str "up", V.str "in", V.str "out", V.str "half", V.str "even", V.str "far"])) H') ⟨none, rfl, Same.refl _⟩ (fun i σ H' _ hP => ?_) (fun i x σ H' hx hP => ?_) (fun σ H' hP => ?_)⟩⟩
    · obtain ⟨y, rfl, s4⟩ := hP
      exact SqL.of (s4 _ _ upd_same)
    · obtain ⟨y, rfl, s4⟩ := hP
      obtain ⟨m, rfl⟩ := seven hx
      have pa4 := same_new (o := .lst [V.str "down", V.str "up", V.str "in", V.str "out", V.str "half", V.str "even", V.str "far"]) hl _ _ (upd_same (H := H2) (a := pa) (o := .tup [.int t, .int b]))
      refine ⟨_, rfl, _, rfl, _, rfl, _, rfl, pa, _, t, b, rfl, SqT.of (s4 _ _ pa4), b0, up bt (by decide), up bb (by decide), .inl ⟨m, rfl, _, rfl, t, b, m, rfl, b0, bt, bb, _, rfl, iteF ?_⟩⟩
      refine ⟨_, rfl, _, rfl, rfl, rfl, pa, _, t, b, rfl, SqT.of (s4 _ _ pa4), b0, up bt (by decide), up bb (by decide), .inl ⟨m, rfl, _, rfl, _, rfl, pa, _, t, b, rfl, SqT.of (s4 _ _ pa4), b0, up bt (by decide), up bb (by decide), .inl ⟨m, rfl, rfl, _, rfl, ?_⟩⟩⟩
      refine iteC (c := !decide (V.int (m.f t b) = V.int (m.f t b))) (d := false) (by rw [decide_eq_true rfl]; rfl) (iteF ?_)
      refine ⟨_, rfl, _, rfl, _, rfl, (by show 2 ≤ sizeLine; decide), fun p2 hp2 => ⟨.tuple [.int t, .int b], .tuple [.int t, .int b], .tup (SqT.of (same_new hp2 _ _ (s4 _ _ pa4))) (.cons (.int _) (.cons (.int _) .nil)), .tup (SqT.of upd_same) (.cons (.int _) (.cons (.int _) .nil)), rfl, rfl, _, rfl, ?_⟩⟩
      refine iteC (c := !PyData.eqv (.tuple [.int t, .int b]) (.tuple [.int t, .int b])) (d := false) (by rw [eqv2]; rfl) (iteF ?_)
      exact ⟨_, rfl, s4.trans (same_new hp2)⟩
    · obtain ⟨y, rfl, s4⟩ := hP
      have pa4 := same_new (o := .lst [V.str "down", V.str "up", V.str "in", V.str "out", V.str "half", V.str "even", V.str "far"]) hl _ _ (upd_same (H := H2) (a := pa) (o := .tup [.int t, .int b]))
      have S4 : Same H2 H' := (s3.trans (same_new hl)).trans s4
      refine ⟨_, rfl, pa, _, t, b, rfl, SqT.of (s4 _ _ pa4), b0, up bt (by decide), up bb (by decide), .inl ⟨.half, rfl, _, rfl, pa, _, t, b, rfl, SqT.of (s4 _ _ pa4), b0, up bt (by decide), up bb (by decide), .inl ⟨.half, rfl, rfl, _, rfl, ?_⟩⟩⟩
      refine iteC (c := !decide (V.int (Mn.half.f t b) = V.int (Mn.half.f t b))) (d := false) (by rw [decide_eq_true rfl]; rfl) (iteF ?_)
      refine ⟨(by show 1 ≤ sizeLine; decide), fun l1 hl1 => ⟨(by show 1 ≤ sizeLine; decide), fun l2 hl2 => fun l3 hl3 => ⟨(by show 13 ≤ sizeLine; decide), fun l4 hl4 => ?_⟩⟩⟩
      have q1 := same_new (o := .lst [.str "down"]) hl1
      have q2 := same_new (o := .tup [.str "half"]) hl2
      have q3 := same_new (o := .dK []) hl3
      have q4 := same_new (o := .lst [V.str "", V.str "Down", V.str "down ", V.str "near", V.str "none", V.str "halfs", V.non, V.bl true, V.int 0, V.ref l1, V.ref l2, V.ref l3, V.str "in out"]) hl4
      have S5 := S4.trans (q1.trans (q2.trans (q3.trans q4)))
      have E1 := q4 _ _ (q3 _ _ (q2 _ _ (upd_same (H := H') (a := l1) (o := .lst [.str "down"]))))
      have E2 := q4 _ _ (q3 _ _ (upd_same (H := upd H' l1 (.lst [.str "down"])) (a := l2) (o := .tup [.str "half"])))
      have E3 := q4 _ _ (upd_same (H := upd (upd H' l1 (.lst [.str "down"])) l2 (.tup [.str "half"])) (a := l3) (o := .dK []))
      have nw : ∀ {x : Addr}, H' x = none → x ≠ w1 := fun h => (wl2.same S4).ne h
      have n1 : l1 ≠ w1 := nw hl1
      have n2 : l2 ≠ w1 := (wl2.same (S4.trans q1)).ne hl2
      have n3 : l3 ≠ w1 := (wl2.same (S4.trans (q1.trans q2))).ne hl3
      have n4 : l4 ≠ w1 := (wl2.same (S4.trans (q1.trans (q2.trans q3)))).ne hl4
      refine ⟨_, rfl, _, rfl, w1, 50, 13, rfl, wl2.same S5, by decide, by decide, by decide, fun r5 H5 r50 r51 d5 d5' w5 => ?_⟩
      obtain ⟨v5, a5, nm5⟩ := pick13 B r50 r51 (d5 _ _ n1 E1) (d5 _ _ n2 E2) (d5 _ _ n3 E3)
      refine ⟨l4, _, r5, v5, rfl, rfl, SqL.of (d5 _ _ n4 upd_same), a5, v5, rfl, nm5, fun H6 s6 => ⟨_, rfl, iteT ?_⟩⟩
      have hS6 : SqL K H6 as (ns.map V.int) := by
        have h1 : SqL K H (as) (ns.map V.int) := hS
        exact Same.seq (same_but s1 ((sb2.trans (SameBut.of S5)).trans (d5.trans (SameBut.of s6))) hw1) h1
      refine ⟨_, rfl, _, rfl, as, ns, 1, rfl, hS6, _, _, rfl, rfl, (by show (0 : Int) < 13; decide), ?_⟩
      obtain ⟨v7, a7, nm7⟩ := pick13 (r := ns.getD 1 0 % 13) B (Int.emod_nonneg _ (by decide)) (Int.emod_lt_of_pos _ (by decide)) (s6 _ _ (d5 _ _ n1 E1)) (s6 _ _ (d5 _ _ n2 E2)) (s6 _ _ (d5 _ _ n3 E3))
      exact ⟨l4, _, _, v7, rfl, rfl, SqL.of (s6 _ _ (d5 _ _ n4 upd_same)), a7, v7, rfl, nm7, fun H7 _ => q H7⟩
end
end E1

namespace E1
open PySem PySem.Spec PyProof.Rows L2

abbrev s_BadForm___init__ : Stmt := inClass (topS 3) 0
theorem bad_ini {P : Program} {w : World} {K : PySem.W.Frag} {mg : Str → Option Value} {C fI cc : Addr} (EC : PySem.ErrX.ErrC K mg "BadForm" C) (IC : PySem.ErrX.IniC P K mg C fI cc "BadForm.__init__" "part" s_BadForm___init__ .none) : PySem.ErrX.IniOk P w K mg C fI "part" := by
  refine ⟨IC.iC, IC.tC, fun A R s x t0 v MO hx hnx hroom fv hq => ?_⟩
  refine PySem.ErrX.err_init EC IC ⟨by decide +kernel, by decide +kernel, by decide +kernel, by decide +kernel, by decide +kernel⟩ rfl rfl ?_ ?_ rfl rfl MO hx hnx hroom fv ?_ hq
  · intro e he
    simp only [List.mem_cons, List.not_mem_nil, or_false] at he
    rcases he with rfl | rfl | rfl
    · exact .c (by decide)
    · exact .f
    · exact .c (by decide)
  · decide
  · intro kV doc pm an cda ct
    exact .of_eq rfl

end E1

namespace E1
open PySem PySem.Spec PyProof.Rows L2

theorem Vals.rev : ∀ {xs : List V} {us : List Value}, Vals xs us → Vals xs.reverse us.reverse
  | _, _, .nil => .nil
  | _, _, .cons r t => by
    rw [List.reverse_cons, List.reverse_cons]
    exact Vals.append (Vals.rev t) (.cons r .nil)
section
variable {P : Program} {w : World} {K : PySem.W.Frag} {mg : Str → Option Value} {base : Heap} {x : Str} {st : Stmt} {f : Addr} {fd : FuncData} {ps ks : List Str} {k n : Nat} {sp : Sp}
/-- a def without defaults: its arguments by keywords alone or behind others -/
theorem Fun.kbn {qual : Str} (F : Fun K x qual st f fd) {g : List Value → List Value → List Value} {gV : List V → List V → List V} (hrel : ∀ {vs : List V} {us : List Value} {zs : List V} {ws : List Value}, Vals vs us → Vals zs ws → Vals (gV vs zs) (g us ws))
    (h : ∀ (kV doc pm : Value) (an : Option Addr) (cdv ct : Value) (us ws : List Value), us.length = n → ws.length = ks.length → bindArgs (PySem.W.fnOf x qual (defArgs st) (defBody st) (defScope st) .none kV doc pm an cdv ct) ⟨us, ks.zip ws⟩ = pure (ps.zip (g us ws))) : KBn K fd ps n ks g gV := by
  obtain ⟨oc, od, kV, doc, pm, an, cdv, ct, osl, rfl, lk, hcd⟩ := F.ex
  exact ⟨fun s us ws _ h1 h2 => .of_eq (h kV doc pm an cdv ct us ws h1 h2), hrel⟩
/-- a def with defaults, all arguments given -/
theorem FunD.kbn {qual : Str} {params : Arguments} {body : List Stmt} {scope : Scope} {dvs : List V} {kws : List (Str × V)} (F : FunD K x qual params body scope dvs kws f fd) (hd : dvs ≠ []) {g : List Value → List Value → List Value} {gV : List V → List V → List V} (hrel : ∀ {vs : List V} {us : List Value} {zs : List V} {ws : List Value}, Vals vs us → Vals zs ws → Vals (gV vs zs) (g us ws))
    (h : ∀ (T : Addr) (kV doc pm : Value) (an : Option Addr) (cdv ct : Value) (us ws its : List Value), us.length = n → ws.length = ks.length → its.length = dvs.length → ∃ k, bindArgs (PySem.W.fnOf x qual params body scope (.ref T) kV doc pm an cdv ct) ⟨us, ks.zip ws⟩ = seqItems? (.ref T) >>= k ∧ k (some its.toArray) = pure (ps.zip (g us ws))) : KBn K fd ps n ks g gV := by
  obtain ⟨oc, od, dV, kV, doc, pm, an, cdv, ct, osl, rfl, lk, hcd, hD, hK⟩ := F.ex
  rcases hD with ⟨e, _⟩ | ⟨_, T, o, its, m, rfl, lT, oT, rT⟩
  · exact absurd e hd
  · refine ⟨fun s us ws X h1 h2 => ?_, hrel⟩
    obtain ⟨k, e1, e2⟩ := h T kV doc pm an cdv ct us ws its h1 h2 rT.length.symm
    refine BindsTo.of_looks fun M => ?_
    rw [e1]
    exact looks_items X lT oT (.of_pure e2)
end
theorem all_mk {l : PySem.W.OpenLaw} {w : World} {K : PySem.W.Frag} {h : Heap} {mg : Str → Option Value} {fa f_downward f_upward f_inward f_outward f_nearest_greater f_nearest_even f_nearest_far f_is_manner f_rounded T_rounded f__law_cell_at f__law_well f__law_draw f__law_low f__law_great f__law_value f__law_near f__law_right f__law_refused f_law A_MANNERS CE CN CU CB fI_CB cc_CB cda_CB : Addr} (X : K.In h) (G : h.Ns mainGlobals mg) (hfa : mg "law" = some (.ref fa))
    {od_downward an_downward : Option Addr} {sl_downward : Array (Option Value)} {oc_downward kV_downward dc_downward pm_downward cd_downward ct_downward : Value}
    (a_downward : PySem.W.nsIn K mainGlobals "downward" = some (some (.ref f_downward)))
    (l_downward : K.lookup f_downward = some ⟨oc_downward, od_downward, .func (PySem.W.fnOf "downward" "downward" (defArgs s_downward) (defBody s_downward) (defScope s_downward) .none kV_downward dc_downward pm_downward an_downward cd_downward ct_downward), sl_downward⟩)
    (c_downward : PySem.W.codeIn K cd_downward "downward" = true)
    (k_downward : PySem.W.keepIn K (.ref f_downward) = true)
    {od_upward an_upward : Option Addr} {sl_upward : Array (Option Value)} {oc_upward kV_upward dc_upward pm_upward cd_upward ct_upward : Value}
    (a_upward : PySem.W.nsIn K mainGlobals "upward" = some (some (.ref f_upward)))
    (l_upward : K.lookup f_upward = some ⟨oc_upward, od_upward, .func (PySem.W.fnOf "upward" "upward" (defArgs s_upward) (defBody s_upward) (defScope s_upward) .none kV_upward dc_upward pm_upward an_upward cd_upward ct_upward), sl_upward⟩)
    (c_upward : PySem.W.codeIn K cd_upward "upward" = true)
    (k_upward : PySem.W.keepIn K (.ref f_upward) = true)
    {od_inward an_inward : Option Addr} {sl_inward : Array (Option Value)} {oc_inward kV_inward dc_inward pm_inward cd_inward ct_inward : Value}
    (a_inward : PySem.W.nsIn K mainGlobals "inward" = some (some (.ref f_inward)))
    (l_inward : K.lookup f_inward = some ⟨oc_inward, od_inward, .func (PySem.W.fnOf "inward" "inward" (defArgs s_inward) (defBody s_inward) (defScope s_inward) .none kV_inward dc_inward pm_inward an_inward cd_inward ct_inward), sl_inward⟩)
    (c_inward : PySem.W.codeIn K cd_inward "inward" = true)
    (k_inward : PySem.W.keepIn K (.ref f_inward) = true)
    {od_outward an_outward : Option Addr} {sl_outward : Array (Option Value)} {oc_outward kV_outward dc_outward pm_outward cd_outward ct_outward : Value}
    (a_outward : PySem.W.nsIn K mainGlobals "outward" = some (some (.ref f_outward)))
    (l_outward : K.lookup f_outward = some ⟨oc_outward, od_outward, .func (PySem.W.fnOf "outward" "outward" (defArgs s_outward) (defBody s_outward) (defScope s_outward) .none kV_outward dc_outward pm_outward an_outward cd_outward ct_outward), sl_outward⟩)
    (c_outward : PySem.W.codeIn K cd_outward "outward" = true)
    (k_outward : PySem.W.keepIn K (.ref f_outward) = true)
    {od_nearest_greater an_nearest_greater : Option Addr} {sl_nearest_greater : Array (Option Value)} {oc_nearest_greater kV_nearest_greater dc_nearest_greater pm_nearest_greater cd_nearest_greater ct_nearest_greater : Value}
    (a_nearest_greater : PySem.W.nsIn K mainGlobals "nearest_greater" = some (some (.ref f_nearest_greater)))
    (l_nearest_greater : K.lookup f_nearest_greater = some ⟨oc_nearest_greater, od_nearest_greater, .func (PySem.W.fnOf "nearest_greater" "nearest_greater" (defArgs s_nearest_greater) (defBody s_nearest_greater) (defScope s_nearest_greater) .none kV_nearest_greater dc_nearest_greater pm_nearest_greater an_nearest_greater cd_nearest_greater ct_nearest_greater), sl_nearest_greater⟩)
    (c_nearest_greater : PySem.W.codeIn K cd_nearest_greater "nearest_greater" = true)
    (k_nearest_greater : PySem.W.keepIn K (.ref f_nearest_greater) = true)
    {od_nearest_even an_nearest_even : Option Addr} {sl_nearest_even : Array (Option Value)} {oc_nearest_even kV_nearest_even dc_nearest_even pm_nearest_even cd_nearest_even ct_nearest_even : Value}
    (a_nearest_even : PySem.W.nsIn K mainGlobals "nearest_even" = some (some (.ref f_nearest_even)))
    (l_nearest_even : K.lookup f_nearest_even = some ⟨oc_nearest_even, od_nearest_even, .func (PySem.W.fnOf "nearest_even" "nearest_even" (defArgs s_nearest_even) (defBody s_nearest_even) (defScope s_nearest_even) .none kV_nearest_even dc_nearest_even pm_nearest_even an_nearest_even cd_nearest_even ct_nearest_even), sl_nearest_even⟩)
    (c_nearest_even : PySem.W.codeIn K cd_nearest_even "nearest_even" = true)
    (k_nearest_even : PySem.W.keepIn K (.ref f_nearest_even) = true)
    {od_nearest_far an_nearest_far : Option Addr} {sl_nearest_far : Array (Option Value)} {oc_nearest_far kV_nearest_far dc_nearest_far pm_nearest_far cd_nearest_far ct_nearest_far : Value}
    (a_nearest_far : PySem.W.nsIn K mainGlobals "nearest_far" = some (some (.ref f_nearest_far)))
    (l_nearest_far : K.lookup f_nearest_far = some ⟨oc_nearest_far, od_nearest_far, .func (PySem.W.fnOf "nearest_far" "nearest_far" (defArgs s_nearest_far) (defBody s_nearest_far) (defScope s_nearest_far) .none kV_nearest_far dc_nearest_far pm_nearest_far an_nearest_far cd_nearest_far ct_nearest_far), sl_nearest_far⟩)
    (c_nearest_far : PySem.W.codeIn K cd_nearest_far "nearest_far" = true)
    (k_nearest_far : PySem.W.keepIn K (.ref f_nearest_far) = true)
    {od_is_manner an_is_manner : Option Addr} {sl_is_manner : Array (Option Value)} {oc_is_manner kV_is_manner dc_is_manner pm_is_manner cd_is_manner ct_is_manner : Value}
    (a_is_manner : PySem.W.nsIn K mainGlobals "is_manner" = some (some (.ref f_is_manner)))
    (l_is_manner : K.lookup f_is_manner = some ⟨oc_is_manner, od_is_manner, .func (PySem.W.fnOf "is_manner" "is_manner" (defArgs s_is_manner) (defBody s_is_manner) (defScope s_is_manner) .none kV_is_manner dc_is_manner pm_is_manner an_is_manner cd_is_manner ct_is_manner), sl_is_manner⟩)
    (c_is_manner : PySem.W.codeIn K cd_is_manner "is_manner" = true)
    (k_is_manner : PySem.W.keepIn K (.ref f_is_manner) = true)
    {od_rounded an_rounded : Option Addr} {sl_rounded : Array (Option Value)} {oc_rounded kV_rounded dc_rounded pm_rounded cd_rounded ct_rounded : Value}
    {to_rounded : Value} {td_rounded : Option Addr} {tn_rounded : Nat} {ts_rounded : Array (Option Value)} {tk_rounded_0 : Tok}
    (a_rounded : PySem.W.nsIn K mainGlobals "rounded" = some (some (.ref f_rounded)))
    (l_rounded : K.lookup f_rounded = some ⟨oc_rounded, od_rounded, .func (PySem.W.fnOf "rounded" "rounded" (defArgs s_rounded) (defBody s_rounded) (defScope s_rounded) (.ref T_rounded) kV_rounded dc_rounded pm_rounded an_rounded cd_rounded ct_rounded), sl_rounded⟩)
    (c_rounded : PySem.W.codeIn K cd_rounded "rounded" = true)
    (k_rounded : PySem.W.keepIn K (.ref f_rounded) = true)
    (t_rounded : K.lookup T_rounded = some ⟨to_rounded, td_rounded, .seq [Value.str "half" tk_rounded_0].toArray tn_rounded, ts_rounded⟩)
    {od__law_cell_at an__law_cell_at : Option Addr} {sl__law_cell_at : Array (Option Value)} {oc__law_cell_at kV__law_cell_at dc__law_cell_at pm__law_cell_at cd__law_cell_at ct__law_cell_at : Value}
    (a__law_cell_at : PySem.W.nsIn K mainGlobals "_law_cell_at" = some (some (.ref f__law_cell_at)))
    (l__law_cell_at : K.lookup f__law_cell_at = some ⟨oc__law_cell_at, od__law_cell_at, .func (PySem.W.fnOf "_law_cell_at" "_law_cell_at" (defArgs s__law_cell_at) (defBody s__law_cell_at) (defScope s__law_cell_at) .none kV__law_cell_at dc__law_cell_at pm__law_cell_at an__law_cell_at cd__law_cell_at ct__law_cell_at), sl__law_cell_at⟩)
    (c__law_cell_at : PySem.W.codeIn K cd__law_cell_at "_law_cell_at" = true)
    (k__law_cell_at : PySem.W.keepIn K (.ref f__law_cell_at) = true)
    {od__law_well an__law_well : Option Addr} {sl__law_well : Array (Option Value)} {oc__law_well kV__law_well dc__law_well pm__law_well cd__law_well ct__law_well : Value}
    (a__law_well : PySem.W.nsIn K mainGlobals "_law_well" = some (some (.ref f__law_well)))
    (l__law_well : K.lookup f__law_well = some ⟨oc__law_well, od__law_well, .func (PySem.W.fnOf "_law_well" "_law_well" (defArgs s__law_well) (defBody s__law_well) (defScope s__law_well) .none kV__law_well dc__law_well pm__law_well an__law_well cd__law_well ct__law_well), sl__law_well⟩)
    (c__law_well : PySem.W.codeIn K cd__law_well "_law_well" = true)
    (k__law_well : PySem.W.keepIn K (.ref f__law_well) = true)
    {od__law_draw an__law_draw : Option Addr} {sl__law_draw : Array (Option Value)} {oc__law_draw kV__law_draw dc__law_draw pm__law_draw cd__law_draw ct__law_draw : Value}
    (a__law_draw : PySem.W.nsIn K mainGlobals "_law_draw" = some (some (.ref f__law_draw)))
    (l__law_draw : K.lookup f__law_draw = some ⟨oc__law_draw, od__law_draw, .func (PySem.W.fnOf "_law_draw" "_law_draw" (defArgs s__law_draw) (defBody s__law_draw) (defScope s__law_draw) .none kV__law_draw dc__law_draw pm__law_draw an__law_draw cd__law_draw ct__law_draw), sl__law_draw⟩)
    (c__law_draw : PySem.W.codeIn K cd__law_draw "_law_draw" = true)
    (k__law_draw : PySem.W.keepIn K (.ref f__law_draw) = true)
    {od__law_low an__law_low : Option Addr} {sl__law_low : Array (Option Value)} {oc__law_low kV__law_low dc__law_low pm__law_low cd__law_low ct__law_low : Value}
    (a__law_low : PySem.W.nsIn K mainGlobals "_law_low" = some (some (.ref f__law_low)))
    (l__law_low : K.lookup f__law_low = some ⟨oc__law_low, od__law_low, .func (PySem.W.fnOf "_law_low" "_law_low" (defArgs s__law_low) (defBody s__law_low) (defScope s__law_low) .none kV__law_low dc__law_low pm__law_low an__law_low cd__law_low ct__law_low), sl__law_low⟩)
    (c__law_low : PySem.W.codeIn K cd__law_low "_law_low" = true)
    (k__law_low : PySem.W.keepIn K (.ref f__law_low) = true)
    {od__law_great an__law_great : Option Addr} {sl__law_great : Array (Option Value)} {oc__law_great kV__law_great dc__law_great pm__law_great cd__law_great ct__law_great : Value}
    (a__law_great : PySem.W.nsIn K mainGlobals "_law_great" = some (some (.ref f__law_great)))
    (l__law_great : K.lookup f__law_great = some ⟨oc__law_great, od__law_great, .func (PySem.W.fnOf "_law_great" "_law_great" (defArgs s__law_great) (defBody s__law_great) (defScope s__law_great) .none kV__law_great dc__law_great pm__law_great an__law_great cd__law_great ct__law_great), sl__law_great⟩)
    (c__law_great : PySem.W.codeIn K cd__law_great "_law_great" = true)
    (k__law_great : PySem.W.keepIn K (.ref f__law_great) = true)
    {od__law_value an__law_value : Option Addr} {sl__law_value : Array (Option Value)} {oc__law_value kV__law_value dc__law_value pm__law_value cd__law_value ct__law_value : Value}
    (a__law_value : PySem.W.nsIn K mainGlobals "_law_value" = some (some (.ref f__law_value)))
    (l__law_value : K.lookup f__law_value = some ⟨oc__law_value, od__law_value, .func (PySem.W.fnOf "_law_value" "_law_value" (defArgs s__law_value) (defBody s__law_value) (defScope s__law_value) .none kV__law_value dc__law_value pm__law_value an__law_value cd__law_value ct__law_value), sl__law_value⟩)
    (c__law_value : PySem.W.codeIn K cd__law_value "_law_value" = true)
    (k__law_value : PySem.W.keepIn K (.ref f__law_value) = true)
    {od__law_near an__law_near : Option Addr} {sl__law_near : Array (Option Value)} {oc__law_near kV__law_near dc__law_near pm__law_near cd__law_near ct__law_near : Value}
    (a__law_near : PySem.W.nsIn K mainGlobals "_law_near" = some (some (.ref f__law_near)))
    (l__law_near : K.lookup f__law_near = some ⟨oc__law_near, od__law_near, .func (PySem.W.fnOf "_law_near" "_law_near" (defArgs s__law_near) (defBody s__law_near) (defScope s__law_near) .none kV__law_near dc__law_near pm__law_near an__law_near cd__law_near ct__law_near), sl__law_near⟩)
    (c__law_near : PySem.W.codeIn K cd__law_near "_law_near" = true)
    (k__law_near : PySem.W.keepIn K (.ref f__law_near) = true)
    {od__law_right an__law_right : Option Addr} {sl__law_right : Array (Option Value)} {oc__law_right kV__law_right dc__law_right pm__law_right cd__law_right ct__law_right : Value}
    (a__law_right : PySem.W.nsIn K mainGlobals "_law_right" = some (some (.ref f__law_right)))
    (l__law_right : K.lookup f__law_right = some ⟨oc__law_right, od__law_right, .func (PySem.W.fnOf "_law_right" "_law_right" (defArgs s__law_right) (defBody s__law_right) (defScope s__law_right) .none kV__law_right dc__law_right pm__law_right an__law_right cd__law_right ct__law_right), sl__law_right⟩)
    (c__law_right : PySem.W.codeIn K cd__law_right "_law_right" = true)
    (k__law_right : PySem.W.keepIn K (.ref f__law_right) = true)
    {od__law_refused an__law_refused : Option Addr} {sl__law_refused : Array (Option Value)} {oc__law_refused kV__law_refused dc__law_refused pm__law_refused cd__law_refused ct__law_refused : Value}
    (a__law_refused : PySem.W.nsIn K mainGlobals "_law_refused" = some (some (.ref f__law_refused)))
    (l__law_refused : K.lookup f__law_refused = some ⟨oc__law_refused, od__law_refused, .func (PySem.W.fnOf "_law_refused" "_law_refused" (defArgs s__law_refused) (defBody s__law_refused) (defScope s__law_refused) .none kV__law_refused dc__law_refused pm__law_refused an__law_refused cd__law_refused ct__law_refused), sl__law_refused⟩)
    (c__law_refused : PySem.W.codeIn K cd__law_refused "_law_refused" = true)
    (k__law_refused : PySem.W.keepIn K (.ref f__law_refused) = true)
    {od_law an_law : Option Addr} {sl_law : Array (Option Value)} {oc_law kV_law dc_law pm_law cd_law ct_law : Value}
    (a_law : PySem.W.nsIn K mainGlobals "law" = some (some (.ref f_law)))
    (l_law : K.lookup f_law = some ⟨oc_law, od_law, .func (PySem.W.fnOf "law" "law" (defArgs s_law) (defBody s_law) (defScope s_law) .none kV_law dc_law pm_law an_law cd_law ct_law), sl_law⟩)
    (c_law : PySem.W.codeIn K cd_law "law" = true)
    (k_law : PySem.W.keepIn K (.ref f_law) = true)
    {es_MANNERS : Array DictEntry} {dn_MANNERS : Nat}
    (g_MANNERS : PySem.W.nsIn K mainGlobals "MANNERS" = some (some (.ref A_MANNERS)))
    (t_MANNERS : K.lookup A_MANNERS = some ⟨.type "dict", none, .dict es_MANNERS dn_MANNERS, #[]⟩)
    (y_MANNERS : PySem.W.KeysLit w.params es_MANNERS.toList)
    (w_MANNERS : (A_MANNERS == sysModules) = false)
    (d_MANNERS_down : PySem.W.nsIn K A_MANNERS "down" = some (some (.ref f_downward)))
    (d_MANNERS_up : PySem.W.nsIn K A_MANNERS "up" = some (some (.ref f_upward)))
    (d_MANNERS_in : PySem.W.nsIn K A_MANNERS "in" = some (some (.ref f_inward)))
    (d_MANNERS_out : PySem.W.nsIn K A_MANNERS "out" = some (some (.ref f_outward)))
    (d_MANNERS_half : PySem.W.nsIn K A_MANNERS "half" = some (some (.ref f_nearest_greater)))
    (d_MANNERS_even : PySem.W.nsIn K A_MANNERS "even" = some (some (.ref f_nearest_even)))
    (d_MANNERS_far : PySem.W.nsIn K A_MANNERS "far" = some (some (.ref f_nearest_far)))
    (bd_0 : PySem.W.nsIn K A_MANNERS "" = some none)
    (bd_1 : PySem.W.nsIn K A_MANNERS "Down" = some none)
    (bd_2 : PySem.W.nsIn K A_MANNERS "down " = some none)
    (bd_3 : PySem.W.nsIn K A_MANNERS "near" = some none)
    (bd_4 : PySem.W.nsIn K A_MANNERS "none" = some none)
    (bd_5 : PySem.W.nsIn K A_MANNERS "halfs" = some none)
    (bd_6 : PySem.W.nsIn K A_MANNERS "in out" = some none)
    (aC_CE : PySem.W.nsIn K mainGlobals "EchoError" = some (some (.ref CE)))
    (aC_CN : PySem.W.nsIn K mainGlobals "NoFraction" = some (some (.ref CN)))
    (aC_CU : PySem.W.nsIn K mainGlobals "Unfit" = some (some (.ref CU)))
    (aC_CB : PySem.W.nsIn K mainGlobals "BadForm" = some (some (.ref CB)))
    (ei_CB : PySem.W.excInitIn K CB PySem.ErrX.bmA "ArithmeticError.__new__" = true)
    (eo_CB : PySem.W.excOver K CB PySem.ErrX.bmA = true)
    (sa_CB : PySem.W.findIn K (.ref CB) "__setattr__" = some (some (.builtin "object.__setattr__")))
    (ga_CB : PySem.W.findIn K (.ref CB) "__getattribute__" = some (some (.builtin "BaseException.__getattribute__")))
    (gg_CB : PySem.W.findIn K (.ref CB) "__getattr__" = some none)
    (kC_CB : PySem.W.keepIn K (.ref CB) = true)
    (ex_CB : PySem.W.subIn K (.ref CB) (.type "BaseException") = some true)
    (ty_CB : PySem.W.typeIn K (.ref CB) = some (.type "type"))
    (hd_CB : PySem.W.hasDictIn K CB = true)
    (ha_CB : PySem.W.findIn K (.ref CB) "__class__" = some (some (.builtin "object.__class__")))
    (hn_CB : PySem.W.specialIn K (.builtin "object.__class__") "__get__" = some (some (.builtin "getset_descriptor.__get__")))
    (ht_CB : PySem.W.takesIn K (.builtin "object.__class__") = some true)
    (hm_CB : PySem.W.mroIn K CB (.type "object") = some true)
    (iC_CB : PySem.W.findIn K (.ref CB) "__init__" = some (some (.ref fI_CB)))
    (tC_CB : PySem.W.typeIn K (.ref fI_CB) = some (.type "function"))
    {od_CB an_CB cdd_CB cld_CB : Option Addr} {sl_CB ccs_CB csl_CB : Array (Option Value)} {oc_CB kV_CB dc_CB pm_CB ct_CB ccl_CB cl_CB : Value} {vs_CB : Array Value} {file_CB : Str} {tf_CB : Tok}
    (l_CB : K.lookup fI_CB = some ⟨oc_CB, od_CB, .func (PySem.W.ksFn "__init__" "BadForm.__init__" (defArgs s_BadForm___init__) (defBody s_BadForm___init__) (defScope s_BadForm___init__) .none kV_CB dc_CB pm_CB an_CB (.ref cda_CB) ct_CB cc_CB), sl_CB⟩)
    (cd_CB : PySem.W.codeIn K (.ref cda_CB) "BadForm.__init__" = true)
    (lc_CB : K.lookup cda_CB = some ⟨ccl_CB, cdd_CB, .fields vs_CB, ccs_CB⟩)
    (v2_CB : vs_CB[2]? = some (.str file_CB tf_CB))
    (fl_CB : ((l.prog.main.file : Str) == file_CB) = true)
    (ce_CB : K.lookup cc_CB = some ⟨cl_CB, cld_CB, .cell (some (.ref CB)), csl_CB⟩)
    (nf_CB : PySem.W.findIn K (.ref CB) "part" = some none)
    (su_CB : PySem.W.ks_superIn K CB CB "__init__" = some (some (.builtin "ArithmeticError.__init__")))
    (sA_CB : PySem.W.subIn K (.ref CB) (.type "ArithmeticError") = some true)
    (sf_CB : PySem.W.mroIn K CB (.ref CB) = some true)
    (th_CB : PySem.W.nsIn K cStatics "thirdparty.any" = some none)
    (ms_CB : PySem.W.nsIn K mainGlobals "super" = some none)
    (tp_CB : (l.prog.main.scope.names.lookup ("super" : Str)).isSome = false)
    (xm : PySem.W.exmOne K (.ref CB) (.ref CE) = some true)
    (ki_B : PySem.W.kitOne K (.ref CB) (.ref CB) = some true)
    (ki_N : PySem.W.kitOne K (.ref CB) (.ref CN) = some false)
    (ki_U : PySem.W.kitOne K (.ref CB) (.ref CU) = some false)
    (z_isinstance : PySem.W.nsIn K mainGlobals "isinstance" = some none)
    (z_str : PySem.W.nsIn K mainGlobals "str" = some none)
    (z_len : PySem.W.nsIn K mainGlobals "len" = some none)
    (z_int : PySem.W.nsIn K mainGlobals "int" = some none)
    (z_abs : PySem.W.nsIn K mainGlobals "abs" = some none)
    (z_range : PySem.W.nsIn K mainGlobals "range" = some none)
    (z_bool : PySem.W.nsIn K mainGlobals "bool" = some none) :
    ∃ fd : FuncData, (∀ (s : Shared) (v : Value), BindsTo s fd ⟨[v], []⟩ [("_law_script", v)]) ∧ ∀ base : Heap, K.In base → base.Ns mainGlobals mg → FnOk l.prog w K mg base CX0 5 fa fd ["_law_script"] (spLaw K) := by
  have F_downward := fun_mk (st := s_downward) l_downward c_downward k_downward
  have b_downward := F_downward.binds (ps := ["top", "bottom"]) fun _ _ _ _ _ _ us hl => match us, hl with | [_, _], _ => rfl
  have F_upward := fun_mk (st := s_upward) l_upward c_upward k_upward
  have b_upward := F_upward.binds (ps := ["top", "bottom"]) fun _ _ _ _ _ _ us hl => match us, hl with | [_, _], _ => rfl
  have F_inward := fun_mk (st := s_inward) l_inward c_inward k_inward
  have b_inward := F_inward.binds (ps := ["top", "bottom"]) fun _ _ _ _ _ _ us hl => match us, hl with | [_, _], _ => rfl
  have F_outward := fun_mk (st := s_outward) l_outward c_outward k_outward
  have b_outward := F_outward.binds (ps := ["top", "bottom"]) fun _ _ _ _ _ _ us hl => match us, hl with | [_, _], _ => rfl
  have F_nearest_greater := fun_mk (st := s_nearest_greater) l_nearest_greater c_nearest_greater k_nearest_greater
  have b_nearest_greater := F_nearest_greater.binds (ps := ["top", "bottom"]) fun _ _ _ _ _ _ us hl => match us, hl with | [_, _], _ => rfl
  have F_nearest_even := fun_mk (st := s_nearest_even) l_nearest_even c_nearest_even k_nearest_even
  have b_nearest_even := F_nearest_even.binds (ps := ["top", "bottom"]) fun _ _ _ _ _ _ us hl => match us, hl with | [_, _], _ => rfl
  have F_nearest_far := fun_mk (st := s_nearest_far) l_nearest_far c_nearest_far k_nearest_far
  have b_nearest_far := F_nearest_far.binds (ps := ["top", "bottom"]) fun _ _ _ _ _ _ us hl => match us, hl with | [_, _], _ => rfl
  have F_is_manner := fun_mk (st := s_is_manner) l_is_manner c_is_manner k_is_manner
  have b_is_manner := F_is_manner.binds (ps := ["thing"]) fun _ _ _ _ _ _ us hl => match us, hl with | [_], _ => rfl
  have F_rounded : FunD K "rounded" "rounded" (defArgs s_rounded) (defBody s_rounded) (defScope s_rounded) [V.str "half"] [] f_rounded _ := ⟨⟨_, _, _, _, _, _, _, _, _, _, rfl, l_rounded, c_rounded, .inr ⟨by simp, T_rounded, _, [Value.str "half" tk_rounded_0], _, rfl, t_rounded, rfl, (.cons ⟨_, rfl⟩ .nil)⟩, .inl rfl⟩, k_rounded⟩
  obtain ⟨ds_rounded, dv_rounded, b_rounded⟩ := F_rounded.binds1 (ps := ["value", "manner"]) 2 1 (by simp) rfl fun _ _ _ _ _ _ _ us its h1 h2 => match us, its, h1, h2 with | [_, _], [_], _, _ => ⟨_, rfl, rfl⟩
  cases dv_rounded
  obtain ⟨ds_rounded1, dv_rounded1, b_rounded1⟩ := F_rounded.binds1 (ps := ["value", "manner"]) 1 0 (by simp) rfl fun _ _ _ _ _ _ _ us its h1 h2 => match us, its, h1, h2 with | [_], [_], _, _ => ⟨_, rfl, rfl⟩
  have F__law_cell_at := fun_mk (st := s__law_cell_at) l__law_cell_at c__law_cell_at k__law_cell_at
  have b__law_cell_at := F__law_cell_at.binds (ps := ["_law_script", "_law_k"]) fun _ _ _ _ _ _ us hl => match us, hl with | [_, _], _ => rfl
  have F__law_well := fun_mk (st := s__law_well) l__law_well c__law_well k__law_well
  have b__law_well := F__law_well.binds (ps := ["_law_cell"]) fun _ _ _ _ _ _ us hl => match us, hl with | [_], _ => rfl
  have F__law_draw := fun_mk (st := s__law_draw) l__law_draw c__law_draw k__law_draw
  have b__law_draw := F__law_draw.binds (ps := ["_law_well_here", "_law_many"]) fun _ _ _ _ _ _ us hl => match us, hl with | [_, _], _ => rfl
  have F__law_low := fun_mk (st := s__law_low) l__law_low c__law_low k__law_low
  have b__law_low := F__law_low.binds (ps := ["_law_top", "_law_bottom"]) fun _ _ _ _ _ _ us hl => match us, hl with | [_, _], _ => rfl
  have F__law_great := fun_mk (st := s__law_great) l__law_great c__law_great k__law_great
  have b__law_great := F__law_great.binds (ps := ["_law_well_here", "_law_many"]) fun _ _ _ _ _ _ us hl => match us, hl with | [_, _], _ => rfl
  have F__law_value := fun_mk (st := s__law_value) l__law_value c__law_value k__law_value
  have b__law_value := F__law_value.binds (ps := ["_law_well_here"]) fun _ _ _ _ _ _ us hl => match us, hl with | [_], _ => rfl
  have F__law_near := fun_mk (st := s__law_near) l__law_near c__law_near k__law_near
  have b__law_near := F__law_near.binds (ps := ["_law_top", "_law_bottom", "_law_found", "_law_style"]) fun _ _ _ _ _ _ us hl => match us, hl with | [_, _, _, _], _ => rfl
  have F__law_right := fun_mk (st := s__law_right) l__law_right c__law_right k__law_right
  have b__law_right := F__law_right.binds (ps := ["_law_top", "_law_bottom", "_law_found", "_law_style"]) fun _ _ _ _ _ _ us hl => match us, hl with | [_, _, _, _], _ => rfl
  have F__law_refused := fun_mk (st := s__law_refused) l__law_refused c__law_refused k__law_refused
  have b__law_refused := F__law_refused.binds (ps := ["_law_style"]) fun _ _ _ _ _ _ us hl => match us, hl with | [_], _ => rfl
  have F_law := fun_mk (st := s_law) l_law c_law k_law
  have b_law := F_law.binds (ps := ["_law_script"]) fun _ _ _ _ _ _ us hl => match us, hl with | [_], _ => rfl
  have kb0 := FunD.kbn (n := 0) (ks := ["manner", "value"]) (ps := ["value", "manner"]) F_rounded (by simp) (g := fun us ws => us ++ ws.reverse) (gV := fun vs zs => vs ++ zs.reverse) (fun r s => Vals.append r (Vals.rev s)) fun _ _ _ _ _ _ _ us ws its h1 h2 h3 => match us, ws, its, h1, h2, h3 with | [], [_, _], [_], _, _, _ => ⟨_, rfl, rfl⟩
  have EC_CB : PySem.ErrX.ErrC K mg "BadForm" CB := ⟨PySem.W.mg_of X G aC_CB, ei_CB, eo_CB, sa_CB, ga_CB, gg_CB, kC_CB, ex_CB, ty_CB, hd_CB⟩
  have IC_CB : PySem.ErrX.IniC l.prog K mg CB fI_CB cc_CB "BadForm.__init__" "part" s_BadForm___init__ .none := ⟨iC_CB, tC_CB, ⟨_, _, _, _, _, _, _, _, _, l_CB, cd_CB, _, _, _, _, _, _, lc_CB, v2_CB, fl_CB⟩, ⟨_, _, _, ce_CB⟩, nf_CB, su_CB, sA_CB, sf_CB, th_CB, PySem.W.mg_none_of X G ms_CB, tp_CB⟩
  have XC_CB : ExcC K CB := ⟨ga_CB, gg_CB, ex_CB, hd_CB, ha_CB, hn_CB, ht_CB, hm_CB⟩
  have z : Zs mg := ⟨PySem.W.mg_none_of X G z_isinstance, PySem.W.mg_none_of X G z_str, PySem.W.mg_none_of X G z_len, PySem.W.mg_none_of X G z_int, PySem.W.mg_none_of X G z_abs, PySem.W.mg_none_of X G z_range, PySem.W.mg_none_of X G z_bool⟩
  have e := hfa.symm.trans (PySem.W.mg_of X G a_law)
  cases e
  refine ⟨PySem.W.fnOf "law" "law" (defArgs s_law) (defBody s_law) (defScope s_law) .none kV_law dc_law pm_law an_law cd_law ct_law, fun s v => .of_eq rfl, fun base _ _ => ?_⟩
  have c_downward : Cal l.prog w K mg base 1 "downward" ["top", "bottom"] _ := ⟨f_downward, _, PySem.W.mg_of X G a_downward, k_downward, b_downward, ok_downward (k := 0) F_downward⟩
  have c_upward : Cal l.prog w K mg base 1 "upward" ["top", "bottom"] _ := ⟨f_upward, _, PySem.W.mg_of X G a_upward, k_upward, b_upward, ok_upward (k := 0) F_upward⟩
  have c_nearest_greater : Cal l.prog w K mg base 1 "nearest_greater" ["top", "bottom"] _ := ⟨f_nearest_greater, _, PySem.W.mg_of X G a_nearest_greater, k_nearest_greater, b_nearest_greater, ok_nearest_greater (k := 0) F_nearest_greater⟩
  have MM : Mans l.prog w K mg base A_MANNERS es_MANNERS dn_MANNERS := ⟨PySem.W.mg_of X G g_MANNERS, ⟨t_MANNERS, y_MANNERS, w_MANNERS⟩, fun m => match m with
    | .down => ⟨f_downward, _, d_MANNERS_down, k_downward, b_downward, ok_downward (k := 1) F_downward⟩
    | .up => ⟨f_upward, _, d_MANNERS_up, k_upward, b_upward, ok_upward (k := 1) F_upward⟩
    | .inn => ⟨f_inward, _, d_MANNERS_in, k_inward, b_inward, ok_inward F_inward c_downward c_upward⟩
    | .out => ⟨f_outward, _, d_MANNERS_out, k_outward, b_outward, ok_outward F_outward c_downward c_upward⟩
    | .half => ⟨f_nearest_greater, _, d_MANNERS_half, k_nearest_greater, b_nearest_greater, ok_nearest_greater (k := 1) F_nearest_greater⟩
    | .even => ⟨f_nearest_even, _, d_MANNERS_even, k_nearest_even, b_nearest_even, ok_nearest_even F_nearest_even c_nearest_greater⟩
    | .far => ⟨f_nearest_far, _, d_MANNERS_far, k_nearest_far, b_nearest_far, ok_nearest_far F_nearest_far c_nearest_greater⟩⟩
  have c_is_manner : Cal l.prog w K mg base 1 "is_manner" ["thing"] _ := ⟨f_is_manner, _, PySem.W.mg_of X G a_is_manner, k_is_manner, b_is_manner, ok_is_manner (k := 0) MM F_is_manner z⟩
  have XX : Errs K mg CE CB CN CU := ⟨PySem.W.mg_of X G aC_CE, PySem.W.mg_of X G aC_CB, PySem.W.mg_of X G aC_CN, PySem.W.mg_of X G aC_CU, XC_CB, nf_CB, xm, ki_B, ki_N, ki_U⟩
  have BB : Bads K A_MANNERS := ⟨bd_0, bd_1, bd_2, bd_3, bd_4, bd_5, bd_6⟩
  have okR := ok_rounded (base := base) MM XX EC_CB (bad_ini EC_CB IC_CB) F_rounded c_is_manner
  have c_rounded : CalX l.prog w K mg base 3 "rounded" ["value", "manner"] [] _ := ⟨f_rounded, _, _, PySem.W.mg_of X G a_rounded, k_rounded, .nil, b_rounded, okR⟩
  have c_rounded_1 : CalX l.prog w K mg base 3 "rounded" ["value", "manner"] [V.str "half"] _ := ⟨f_rounded, _, _, PySem.W.mg_of X G a_rounded, k_rounded, dv_rounded1, b_rounded1, okR⟩
  have c_rounded_k : CalXK l.prog w K mg base 3 "rounded" ["value", "manner"] 0 ["manner", "value"] _ _ := ⟨f_rounded, _, _, PySem.W.mg_of X G a_rounded, k_rounded, kb0, okR⟩
  have c__law_cell_at : Cal l.prog w K mg base 1 "_law_cell_at" ["_law_script", "_law_k"] _ := ⟨f__law_cell_at, _, PySem.W.mg_of X G a__law_cell_at, k__law_cell_at, b__law_cell_at, ok_cell (k := 0) F__law_cell_at z.len⟩
  have c__law_well : Cal l.prog w K mg base 1 "_law_well" ["_law_cell"] _ := ⟨f__law_well, _, PySem.W.mg_of X G a__law_well, k__law_well, b__law_well, ok_well (k := 0) F__law_well z.int⟩
  have c__law_draw : Cal l.prog w K mg base 1 "_law_draw" ["_law_well_here", "_law_many"] _ := ⟨f__law_draw, _, PySem.W.mg_of X G a__law_draw, k__law_draw, b__law_draw, ok_draw (k := 0) F__law_draw⟩
  have c__law_low : Cal l.prog w K mg base 1 "_law_low" ["_law_top", "_law_bottom"] _ := ⟨f__law_low, _, PySem.W.mg_of X G a__law_low, k__law_low, b__law_low, ok__law_low (k := 0) F__law_low z⟩
  have c__law_great : Cal l.prog w K mg base 2 "_law_great" ["_law_well_here", "_law_many"] _ := ⟨f__law_great, _, PySem.W.mg_of X G a__law_great, k__law_great, b__law_great, ok__law_great F__law_great z c__law_draw⟩
  have c__law_value : Cal l.prog w K mg base 3 "_law_value" ["_law_well_here"] _ := ⟨f__law_value, _, PySem.W.mg_of X G a__law_value, k__law_value, b__law_value, ok__law_value F__law_value c__law_draw c__law_low c__law_great⟩
  have c__law_near : Cal l.prog w K mg base 1 "_law_near" ["_law_top", "_law_bottom", "_law_found", "_law_style"] _ := ⟨f__law_near, _, PySem.W.mg_of X G a__law_near, k__law_near, b__law_near, ok__law_near (k := 0) F__law_near z⟩
  have c__law_right : Cal l.prog w K mg base 2 "_law_right" ["_law_top", "_law_bottom", "_law_found", "_law_style"] _ := ⟨f__law_right, _, PySem.W.mg_of X G a__law_right, k__law_right, b__law_right, ok__law_right F__law_right z c__law_near⟩
  have c__law_refused : Cal l.prog w K mg base 4 "_law_refused" ["_law_style"] _ := ⟨f__law_refused, _, PySem.W.mg_of X G a__law_refused, k__law_refused, b__law_refused, ok__law_refused XX EC_CB F__law_refused z c_rounded⟩
  exact ok_law F_law z BB c__law_cell_at c__law_well c__law_draw c__law_value c__law_right c__law_refused c_rounded c_rounded_1 c_rounded_k

end E1

open PySem PySem.W PyProof.Rows
set_option maxRecDepth 100000 in
set_option maxHeartbeats 0 in
theorem PySem.Challenge.cw_echobound_k03_seven_manners_holds : PySem.Challenge.rw_echobound_k03_seven_manners.Holds := by
  w_on; o_law; k_head; (case hw => w_witness2)
  k_fill
  refine L2.walk_of (l := PySem.Challenge.rw_echobound_k03_seven_manners) (n := 63) (k := 5) (x := "_law_script") (CX := fun _ => L2.CX0) (sp := fun w => E1.spLaw _) rfl (by decide) rfl ⟨rfl, by decide, by decide⟩ (fun w h Y => PySem.W.kIn_of Y) ?F (fun _ _ a ns hl _ hS => ⟨a, ns, rfl, hS, hl, fun _ => rfl⟩) (fun _ _ _ _ _ h => h)
  case F =>
    intro w mg fa h KX G hmg
    refine' E1.all_mk KX G hmg ?a_downward ?l_downward ?c_downward ?k_downward ?a_upward ?l_upward ?c_upward ?k_upward ?a_inward ?l_inward ?c_inward ?k_inward ?a_outward ?l_outward ?c_outward ?k_outward ?a_nearest_greater ?l_nearest_greater ?c_nearest_greater ?k_nearest_greater ?a_nearest_even ?l_nearest_even ?c_nearest_even ?k_nearest_even ?a_nearest_far ?l_nearest_far ?c_nearest_far ?k_nearest_far ?a_is_manner ?l_is_manner ?c_is_manner ?k_is_manner ?a_rounded ?l_rounded ?c_rounded ?k_rounded ?t_rounded ?a__law_cell_at ?l__law_cell_at ?c__law_cell_at ?k__law_cell_at ?a__law_well ?l__law_well ?c__law_well ?k__law_well ?a__law_draw ?l__law_draw ?c__law_draw ?k__law_draw ?a__law_low ?l__law_low ?c__law_low ?k__law_low ?a__law_great ?l__law_great ?c__law_great ?k__law_great ?a__law_value ?l__law_value ?c__law_value ?k__law_value ?a__law_near ?l__law_near ?c__law_near ?k__law_near ?a__law_right ?l__law_right ?c__law_right ?k__law_right ?a__law_refused ?l__law_refused ?c__law_refused ?k__law_refused ?a_law ?l_law ?c_law ?k_law ?g_MANNERS ?t_MANNERS ?y_MANNERS ?w_MANNERS ?d_MANNERS_down ?d_MANNERS_up ?d_MANNERS_in ?d_MANNERS_out ?d_MANNERS_half ?d_MANNERS_even ?d_MANNERS_far ?bd_0 ?bd_1 ?bd_2 ?bd_3 ?bd_4 ?bd_5 ?bd_6 ?aC_CE ?aC_CN ?aC_CU ?aC_CB ?ei_CB ?eo_CB ?sa_CB ?ga_CB ?gg_CB ?kC_CB ?ex_CB ?ty_CB ?hd_CB ?ha_CB ?hn_CB ?ht_CB ?hm_CB ?iC_CB ?tC_CB ?l_CB ?cd_CB ?lc_CB ?v2_CB ?fl_CB ?ce_CB ?nf_CB ?su_CB ?sA_CB ?sf_CB ?th_CB ?ms_CB ?tp_CB ?xm ?ki_B ?ki_N ?ki_U ?z_isinstance ?z_str ?z_len ?z_int ?z_abs ?z_range ?z_bool
    (case a_downward => k_is)
    (case l_downward => k_is)
    (case c_downward => k_is)
    (case k_downward => k_is)
    (case a_upward => k_is)
    (case l_upward => k_is)
    (case c_upward => k_is)
    (case k_upward => k_is)
    (case a_inward => k_is)
    (case l_inward => k_is)
    (case c_inward => k_is)
    (case k_inward => k_is)
    (case a_outward => k_is)
    (case l_outward => k_is)
    (case c_outward => k_is)
    (case k_outward => k_is)
    (case a_nearest_greater => k_is)
    (case l_nearest_greater => k_is)
    (case c_nearest_greater => k_is)
    (case k_nearest_greater => k_is)
    (case a_nearest_even => k_is)
    (case l_nearest_even => k_is)
    (case c_nearest_even => k_is)
    (case k_nearest_even => k_is)
    (case a_nearest_far => k_is)
    (case l_nearest_far => k_is)
    (case c_nearest_far => k_is)
    (case k_nearest_far => k_is)
    (case a_is_manner => k_is)
    (case l_is_manner => k_is)
    (case c_is_manner => k_is)
    (case k_is_manner => k_is)
    (case a_rounded => k_is)
    (case l_rounded => k_is)
    (case c_rounded => k_is)
    (case k_rounded => k_is)
    (case t_rounded => k_is)
    (case a__law_cell_at => k_is)
    (case l__law_cell_at => k_is)
    (case c__law_cell_at => k_is)
    (case k__law_cell_at => k_is)
    (case a__law_well => k_is)
    (case l__law_well => k_is)
    (case c__law_well => k_is)
    (case k__law_well => k_is)
    (case a__law_draw => k_is)
    (case l__law_draw => k_is)
    (case c__law_draw => k_is)
    (case k__law_draw => k_is)
    (case a__law_low => k_is)
    (case l__law_low => k_is)
    (case c__law_low => k_is)
    (case k__law_low => k_is)
    (case a__law_great => k_is)
    (case l__law_great => k_is)
    (case c__law_great => k_is)
    (case k__law_great => k_is)
    (case a__law_value => k_is)
    (case l__law_value => k_is)
    (case c__law_value => k_is)
    (case k__law_value => k_is)
    (case a__law_near => k_is)
    (case l__law_near => k_is)
    (case c__law_near => k_is)
    (case k__law_near => k_is)
    (case a__law_right => k_is)
    (case l__law_right => k_is)
    (case c__law_right => k_is)
    (case k__law_right => k_is)
    (case a__law_refused => k_is)
    (case l__law_refused => k_is)
    (case c__law_refused => k_is)
    (case k__law_refused => k_is)
    (case a_law => k_is)
    (case l_law => k_is)
    (case c_law => k_is)
    (case k_law => k_is)
    (case g_MANNERS => k_is)
    (case t_MANNERS => k_is)
    (case y_MANNERS => (repeat' first | exact trivial | refine ⟨⟨_, _, rfl, rfl⟩, ?_⟩))
    (case w_MANNERS => first | k_is | rfl | decide +kernel)
    (case d_MANNERS_down => k_is)
    (case d_MANNERS_up => k_is)
    (case d_MANNERS_in => k_is)
    (case d_MANNERS_out => k_is)
    (case d_MANNERS_half => k_is)
    (case d_MANNERS_even => k_is)
    (case d_MANNERS_far => k_is)
    (case bd_0 => k_is)
    (case bd_1 => k_is)
    (case bd_2 => k_is)
    (case bd_3 => k_is)
    (case bd_4 => k_is)
    (case bd_5 => k_is)
    (case bd_6 => k_is)
    (case aC_CE => k_is)
    (case aC_CN => k_is)
    (case aC_CU => k_is)
    (case aC_CB => k_is)
    (case ei_CB => kx_is)
    (case eo_CB => kx_is)
    (case sa_CB => k_is)
    (case ga_CB => k_is)
    (case gg_CB => k_is)
    (case kC_CB => k_is)
    (case ex_CB => k_is)
    (case ty_CB => k_is)
    (case hd_CB => k_is)
    (case ha_CB => k_is)
    (case hn_CB => k_is)
    (case ht_CB => k_is)
    (case hm_CB => k_is)
    (case iC_CB => k_is)
    (case tC_CB => k_is)
    (case l_CB => k_is)
    (case cd_CB => k_is)
    (case lc_CB => k_is)
    (case v2_CB => rfl)
    (case fl_CB => first | rfl | decide +kernel)
    (case ce_CB => k_is)
    (case nf_CB => k_is)
    (case su_CB => ks_is)
    (case sA_CB => k_is)
    (case sf_CB => k_is)
    (case th_CB => k_is)
    (case ms_CB => k_is)
    (case tp_CB => first | rfl | decide +kernel)
    (case xm => kts_exm)
    (case ki_B => kit_is)
    (case ki_N => kit_is)
    (case ki_U => kit_is)
    (case z_isinstance => k_is)
    (case z_str => k_is)
    (case z_len => k_is)
    (case z_int => k_is)
    (case z_abs => k_is)
    (case z_range => k_is)
    (case z_bool => k_is)
