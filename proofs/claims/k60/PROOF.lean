import PyProof.Rows.All
import Wide.All
import OpenK.AllK
import Wide.FinOn
import HandS.Codes
import HandS.ForMost
import HandS.Wide
import HandS.Zip
import HandS.IsInst
import HandS.Defaults
import HandS.Style
import HandS.ForExc
import HandS.Walk
import HandS.More
import HandS.CallLocal
import HandS.WideBits
import KE.BitLaws
import KE.KBits
import HandS.FStr
import PyProof.FitsInt
import HandS.TryOnly
import HandS.Star
import HandS.Flow
import HandS.OwnEq
import HandS.DeepEq
import HandS.Conv
import OpenK.KEqL
import KE.IntBitsLaws
import KE.GoesMore
import KE.KTurns
import HandS.Iter
import HandS.TupAny
import KE.KEqSeq
import HandS.ExcField
import HandS.ExcIs
import KE.KExcSuper
import KE.KExcInit
import KE.KExcIs
import HandS.Deep
import HandS.CallSlots
import KE.KLam
import HandS.Lambda
import HandS.EndBits
import HandS.EndTab
import HandS.ExcOwn
import HandS.SuiteRaise
import HandS.HotCalls
import HandS.ExcCtx
import HandS.HeadWalk
import KE.RegKSuper
import KE.RegKIsAll
import KE.RegKTryMore
import KE.KNestM
import KE.KStateDown
import HandS.Words
import HandS.WordsExc
import HandS.Head0
import HandS.Head1
import HandS.Head2
import HandS.HeadEnd
import HandS.HeadHook1
import HandS.HeadHook2
import HandS.HeadHook3
import HandS.HeadHook4
import PySem.Challenge.RW_echobound_k60_whole_boxes_forged
set_option Elab.async false
set_option linter.all false
set_option maxRecDepth 100000
set_option maxHeartbeats 4000000
namespace PySem
namespace ErrX
open PySem.W PySem.Calls PyProof.Rows PySem.HandSPX
abbrev bmA : List Value := [.type "ArithmeticError", .type "Exception", .type "BaseException", .type "object"]
/-- what the written part says of an error class under ArithmeticError -/
structure ErrC (K : Frag) (mg : Str → Option Value) (x : Str) (C : Addr) : Prop where
  gC : mg x = some (.ref C)
  ei : excInitIn K C bmA "ArithmeticError.__new__" = true
  eo : excOver K C bmA = true
  sa : findIn K (.ref C) "__setattr__" = some (some (.builtin "object.__setattr__"))
  ga : findIn K (.ref C) "__getattribute__" = some (some (.builtin "BaseException.__getattribute__"))
  gg : findIn K (.ref C) "__getattr__" = some none
  kC : keepIn K (.ref C) = true
  exC : subIn K (.ref C) (.type "BaseException") = some true
  tyC : typeIn K (.ref C) = some (.type "type")
  hdC : hasDictIn K C = true
/-- its __init__: super().__init__(f'..'), then one field of the same name as the parameter -/
structure IniC (prog : Program) (K : Frag) (mg : Str → Option Value) (C fI cc : Addr) (qual fld : Str) (st : Stmt) (dV : Value) : Prop where
  iC : findIn K (.ref C) "__init__" = some (some (.ref fI))
  tC : typeIn K (.ref fI) = some (.type "function")
  fn : ∃ (oc : Value) (od : Option Addr) (kV doc pm : Value) (an : Option Addr) (cda : Addr) (ct : Value) (osl : Array (Option Value)),
    K.lookup fI = some ⟨oc, od, .func (ksFn "__init__" qual (L2.defArgs st) (L2.defBody st) (L2.defScope st) dV kV doc pm an (.ref cda) ct cc), osl⟩ ∧ codeIn K (.ref cda) qual = true ∧
    ∃ (ccl : Value) (cdd : Option Addr) (vs : Array Value) (ccs : Array (Option Value)) (file : Str) (tf : Tok), K.lookup cda = some ⟨ccl, cdd, .fields vs, ccs⟩ ∧ vs[2]? = some (.str file tf) ∧ ((prog.main.file : Str) == file) = true
  cell : ∃ (cl : Value) (cld : Option Addr) (csl : Array (Option Value)), K.lookup cc = some ⟨cl, cld, .cell (some (.ref C)), csl⟩
  noF : findIn K (.ref C) fld = some none
  sup : ks_superIn K C C "__init__" = some (some (.builtin "ArithmeticError.__init__"))
  subA : subIn K (.ref C) (.type "ArithmeticError") = some true
  slf : mroIn K C (.ref C) = some true
  th : nsIn K cStatics "thirdparty.any" = some none
  msup : mg "super" = none
  top : (prog.main.scope.names.lookup ("super" : Str)).isSome = false
/-- the parts of the text -/
inductive FP (fld : Str) : Expr → Prop
  | c {x : Str} {j : Nat} {pos : Pos} (h : x.length ≤ 1000) : FP fld (.Constant (.str x) j pos)
  | f {p q : Pos} : FP fld (.FormattedValue (.Name fld p) (-1) none q)
/-- a value that is written as a text of at most a thousand signs -/
def FmtOk (v : Value) : Prop := (∃ y t, v = .str y t ∧ y.length ≤ 1000) ∨ ∃ i t, v = .int i t ∧ i.natAbs.log2 < 1920 ∧ (toString i : String).length ≤ 1000
section
variable {prog : Program} {w : World} {A : Around} {E : Value → Shared → Prop} {R : Result → Shared → Prop} {s : Shared} {K : Frag} {mg mb : Str → Option Value} {C fI cc : Addr} {qual fld : Str} {st : Stmt}
theorem joins_ok {env : Env} {m : Str → Option Value} {v : Value} (hk : env.scope.kind = .function) (hl : env.kindOf fld = some .local) (hd : (fld == ("__debug__" : Str)) = false) (hv : m fld = some v) (fv : FmtOk v) :
    ∀ (es : List Expr) (acc : Str) (s : Shared) (Q : Str → Shared → Prop), (∀ e ∈ es, FP fld e) → acc.length + 1000 * es.length ≤ 100000 → s.heap.Ns env.locals m →
      (∀ out tk, out.length ≤ 100000 → Q out { s with toks := tk }) → Joins (model prog w) A E (evalEach es env) acc Q s
  | [], acc, s, Q, _, hz, _, hq => by
    have e0 : evalEach [] env = [] := by first | rfl | simp [evalEach]
    rw [e0]
    have := hq acc s.toks (by simpa using hz)
    exact this
  | e :: es, acc, s, Q, hp, hz, hn, hq => by
    have e0 : evalEach (e :: es) env = eval e env :: evalEach es env := by first | rfl | simp [evalEach]
    rw [e0]
    have hp' : ∀ e ∈ es, FP fld e := fun e h => hp e (List.mem_cons_of_mem _ h)
    rw [List.length_cons] at hz
    have step : ∀ (y : Str) (t : Tok) (tk : Nat), y.length ≤ 1000 → ∃ y' t', Value.str y t = .str y' t' ∧ (acc ++ y').length ≤ sizeLine ∧ Joins (model prog w) A E (evalEach es env) (acc ++ y') Q { s with toks := tk } := fun y t tk hy => by
      have hlen : (acc ++ y).length = acc.length + y.length := by first | exact Str.length_append _ _ | simp
      refine ⟨y, t, rfl, ?_, ?_⟩
      · rw [hlen, sizeLine_eq]
        omega
      · exact joins_ok hk hl hd hv fv es (acc ++ y) { s with toks := tk } Q hp' (by rw [hlen]; omega) hn fun out tk' ho => hq out tk' ho
    show wpAny _ _ (eval e env) _ _ _
    cases hp e List.mem_cons_self with
    | c h => exact Calls.Constant_str (step _ _ _ h)
    | f =>
      refine wpAny_FormattedValue_plain (wpAny_Name (wpAny_loadName_local hk hl hn hv ?_) hd)
      rcases fv with ⟨y, t, rfl, hy⟩ | ⟨i, t, rfl, hi, hy⟩
      · exact wpAny_formatField_str (step y t s.toks hy) (step y _ _ hy) (by rw [sizeLine_eq]; omega)
      · exact wpAny_formatField_int hi (step _ _ _ (by rw [ofString_length]; exact hy))
end
end ErrX
end PySem

namespace PySem
namespace ErrX
open PySem.W PySem.Calls PyProof.Rows PySem.HandSPX
/-- a dict with one text for its key -/
theorem one_key {h : Heap} {dx : Addr} {fld : Str} {hs : Int} {tk : Tok} {v : Value} (e : h.get? dx = some (dictOf [⟨hs, .str fld tk, v⟩] 1)) : h.Ns1 dx (fun y => if y = fld then some v else none) := by
  refine ⟨_, _, _, e, rfl, fun d hd => ?_, List.pairwise_singleton _ _, fun y => ?_⟩
  · obtain rfl : d = ⟨hs, .str fld tk, v⟩ := by simpa using hd
    exact ⟨fld, tk, rfl⟩
  · by_cases z : y = fld
    · subst z
      simp [nsFind, findBy, Value.isStr]
    · simp [nsFind, findBy, Value.isStr, z, Ne.symm z]
/-- what __init__ leaves of a fresh error at x -/
structure IniEnd (h h' : Heap) (x C dx : Addr) (fld : Str) (v : Value) : Prop where
  keep : ∀ b o, b ≠ x → h.get? b = some o → h'.get? b = some o
  obj : ∃ t1 : Addr, h'.get? x = some { cls := .ref C, dict := some dx, data := .fields #[.ref t1, .none, .none, .none, .bool false, .none] }
  dbig : h.objs.size ≤ dx
  dne : dx ≠ x
  ns : h'.Ns1 dx (fun y => if y = fld then some v else none)
section
variable {prog : Program} {w : World} {A : Around} {E : Value → Shared → Prop} {R : Result → Shared → Prop} {s : Shared} {K : Frag} {mg : Str → Option Value} {C fI cc : Addr} {nm qual fld : Str} {st : Stmt}
abbrev iniScope (fld : Str) : Scope := { kind := .function, names := [(Str.ofString "self", .local), (fld, .local), (Str.ofString "__class__", .free), (Str.ofString "super", .globalImplicit)], isGenerator := false, isCoroutine := false, more := [] }
abbrev iniBody (fld : Str) (v1 v2 : Expr) (rest : List Expr) (p1 p2 p3 p4 p5 p6 q1 q2 q3 q4 : Pos) : List Stmt :=
  [.Expr (.Call (.Attribute (.Call (.Name "super" p1) [] [] p2) "__init__" p3) [.JoinedStr (v1 :: v2 :: rest) p4] [] p5) p6, .Assign [.Attribute (.Name "self" q1) fld q2] (.Name fld q3) q4]
/-- a field's name that is none of these -/
structure FldOk (fld : Str) : Prop where
  f1 : (fld == Str.ofString "self") = false
  f2 : (Str.ofString "__class__" == fld) = false
  f3 : (Str.ofString "super" == fld) = false
  f4 : (Str.ofString "self" == fld) = false
  f5 : (fld == Str.ofString "__debug__") = false
section
variable {fld : Str}
theorem lk_self : (iniScope fld).names.lookup (Str.ofString "self") = some .local := by
  rw [List.lookup_cons, beq_self_eq_true]
theorem lk_fld (O : FldOk fld) : (iniScope fld).names.lookup fld = some .local := by
  rw [List.lookup_cons, O.f1, List.lookup_cons, beq_self_eq_true]
theorem lk_cls (O : FldOk fld) : (iniScope fld).names.lookup (Str.ofString "__class__") = some .free := by
  rw [List.lookup_cons, show (Str.ofString "__class__" == Str.ofString "self") = false by decide +kernel, List.lookup_cons, O.f2, List.lookup_cons, beq_self_eq_true]
theorem lk_sup (O : FldOk fld) : (iniScope fld).names.lookup (Str.ofString "super") = some .globalImplicit := by
  rw [List.lookup_cons, show (Str.ofString "super" == Str.ofString "self") = false by decide +kernel, List.lookup_cons, O.f3, List.lookup_cons, show (Str.ofString "super" == Str.ofString "__class__") = false by decide +kernel, List.lookup_cons, beq_self_eq_true]
end
theorem err_init {s1 p1 p2 p3 p4 p5 p6 q1 q2 q3 q4 : Pos} {v1 v2 : Expr} {rest : List Expr} (EC : ErrC K mg nm C) {dV : Value} (IC : IniC prog K mg C fI cc qual fld st dV) (O : FldOk fld)
    (hbd : L2.defBody st = iniBody fld v1 v2 rest p1 p2 p3 p4 p5 p6 q1 q2 q3 q4)
    (hpar : ((L2.defArgs st).posonlyargs ++ (L2.defArgs st).args).head? = some { arg := "self", annotation := none, pos := s1 })
    (hps : ∀ e ∈ v1 :: v2 :: rest, FP fld e) (hlen : rest.length ≤ 20) (hpos : (p3.endLine == p5.line) = true) (hsc : L2.defScope st = iniScope fld)
    {x t0 : Addr} {v : Value} (MO : L2.Mod K mg s.heap) (hx : s.heap.get? x = some (excO C t0)) (hnx : K.lookup x = none) (hroom : A.depth < recursionLimit) (fv : FmtOk v)
    (hbind : ∀ kV doc pm an cda ct, BindsTo s (ksFn "__init__" qual (L2.defArgs st) (L2.defBody st) (L2.defScope st) dV kV doc pm an (.ref cda) ct cc) ⟨[.ref x, v], []⟩ [(Str.ofString "self", .ref x), (fld, v)])
    (hq : ∀ h' tk dx, IniEnd s.heap h' x C dx fld v → R (.ok (.ret .none)) { s with heap := h', toks := tk }) :
    codeAny (model prog w) A (.call (.ref fI) ⟨[.ref x, v], []⟩) R s := by
  obtain ⟨oc, od, kV, doc, pm, an, cda, ct, osl, ho, hcd, ccl, cdd, vs, ccs, file, tf, hcda, hvs, hfile⟩ := IC.fn
  have X := MO.kin
  have hb := hbind kV doc pm an cda ct
  rw [hbd, hsc] at ho hb
  obtain ⟨cl, cld, csl, hcell⟩ := IC.cell
  obtain ⟨mb, hmb, hmb2⟩ := MO.blt
  obtain ⟨nm', N', qn, bs, bm, hdct, sn, sub, ab, col, dd, k0, k1, k2, k3, k5, hC, hT⟩ := excInit_of X EC.ei
  obtain ⟨hp, g, d, t, os⟩ := s
  refine ks_codeAny_call_defAt (fd := ksFn "__init__" qual (L2.defArgs st) (iniBody fld v1 v2 rest p1 p2 p3 p4 p5 p6 q1 q2 q3 q4) (iniScope fld) dV kV doc pm an (.ref cda) ct cc) (body := iniBody fld v1 v2 rest p1 p2 p3 p4 p5 p6 q1 q2 q3 q4) (binds := [(Str.ofString "self", .ref x), (fld, v)])
    hroom (X _ _ ho) rfl MO.nolimit (codeRec_of X hcd) rfl hb ?_ ?_ (fun h₁ hns k => ?_)
  · intro y hy z
    have hy' : y ∈ (iniScope fld).names := hy
    simp only [List.mem_cons, List.not_mem_nil, or_false] at hy'
    rcases hy' with rfl | rfl | rfl | rfl <;> cases z
  · intro y hy
    simp only [List.mem_cons, List.not_mem_nil, or_false] at hy
    rcases hy with rfl | rfl
    · exact lk_self
    · exact lk_fld O
  · have X₁ : K.In h₁ := X.keeps k
    have hx₁ := k _ _ hx
    have hC₁ := k _ _ hC
    have mS : (fun y => [(Str.ofString "self", Value.ref x), (fld, v)].reverse.lookup y) (Str.ofString "self") = some (.ref x) := by
      show List.lookup (Str.ofString "self") [(fld, v), (Str.ofString "self", Value.ref x)] = _
      rw [List.lookup_cons, O.f4, List.lookup_cons, beq_self_eq_true]
    have mF : (fun y => [(Str.ofString "self", Value.ref x), (fld, v)].reverse.lookup y) fld = some v := by
      show List.lookup fld [(fld, v), (Str.ofString "self", Value.ref x)] = _
      rw [List.lookup_cons, beq_self_eq_true]
    refine ks_wpAt_execs_cons (ks_wpAt_Expr_any (ks_wpAt_MethodCall (pl := (do return (← importBound (.Call (.Name "super" p1) [] [] p2) (ksEnv qual (iniScope fld) hp.objs.size fI (.ref cda) cc)).getD true)) ?_ ?_))
    rotate_left
    · rw [arm_eval_Call]
      unfold methodCall
      have e2 : ∀ env : Env, methodCallPos (methodCallForm ([Expr.JoinedStr (v1 :: v2 :: rest) p4].length + ([] : List Keyword).length) (backTo p5 (starEach [Expr.JoinedStr (v1 :: v2 :: rest) p4] env)) (backToKw p5 (keywordEach [] env))) (.Call (.Name "super" p1) [] [] p2) env p3 p5 = pure p5 := fun env => by
        show (if (!true || p3.endLine == p5.line) = true then pure p5 else _) = _
        rw [hpos]
        rfl
      rw [e2]
      rfl
    refine ks_wpAt_super_base (f := fI) (cc := cda) (lk_sup O) (lk_cls O) (by decide +kernel) rfl (X₁ _ _ ho) rfl hpar rfl (X₁ _ _ hcda) rfl hvs hfile IC.top ?_
    refine ks_loadName_global rfl (lk_sup O) (loadGlobal_builtin (MO.glob.keeps k) IC.msup (hmb.keeps k) ((hmb2 "super" (by decide)).trans (show bootBuiltins "super" = some (.type "super") by decide +kernel)) ⟨rfl, ?_⟩)
    refine wpAny_loadName_free rfl (lk_cls O) rfl ⟨_, X₁ _ _ hcell, rfl⟩ ?_
    refine wpAny_loadName_local rfl lk_self hns mS ?_
    refine ks_wpAny_isType_cls hC₁ rfl ⟨rfl, ?_⟩
    refine ks_wpAny_call_super hC₁ rfl hx₁ rfl (fun c z => by cases z) (looks_mroIn X₁ IC.slf) (fun h₂ hso k₂ => ?_)
    have X₂ : K.In h₂ := X₁.keeps k₂
    have hx₂ := k₂ _ _ hx₁
    have I₂ : W.InstAt h₂ x (excO C t0) C none := ⟨hx₂, rfl, rfl, trivial⟩
    have hsup := IC.sup
    unfold ks_superIn at hsup
    cases hc : clsIn K C with
    | none =>
      rw [hc] at hsup
      cases hsup
    | some cd =>
    rw [hc] at hsup
    refine kxs_getMethod kxs_ArithmeticError hso (looks_opaque X₂ IC.th) (l₀ := cd.mro) (fun A Q E s k q => wpAny_bind ((looks_clsIn X₂ hc) A _ E s k (wpAny_pure q))) rfl X₂ hsup (I₂.type.andThen (looks_subIn X₂ IC.subA)) (ks_ne X₂ I₂ hc) (by decide +kernel) ?_
    have k₃ : ∀ b o, h₂.get? b = some o → (h₂.push (kxs_mw "ArithmeticError.__init__" x)).get? b = some o := fun b o e => Heap.get?_push_of_some _ e
    have hu : (h₂.push (kxs_mw "ArithmeticError.__init__" x)).get? h₂.objs.size = some (kxs_mw "ArithmeticError.__init__" x) := Heap.get?_push_at rfl rfl
    have kk : ∀ b o, hp.get? b = some o → (h₂.push (kxs_mw "ArithmeticError.__init__" x)).get? b = some o := fun b o e => k₃ _ _ (k₂ _ _ (k _ _ e))
    have hns₃ : (h₂.push (kxs_mw "ArithmeticError.__init__" x)).Ns hp.objs.size (fun y => [(Str.ofString "self", Value.ref x), (fld, v)].reverse.lookup y) := by
      obtain ⟨oL, es, ep, hL, r⟩ := hns
      exact ⟨oL, es, ep, k₃ _ _ (k₂ _ _ hL), r⟩
    have hx₃ := k₃ _ _ hx₂
    have hC₃ := kk _ _ hC
    have hsz : h₂.objs.size < (h₂.push (kxs_mw "ArithmeticError.__init__" x)).objs.size := Heap.lt_size hu
    generalize h₂.push (kxs_mw "ArithmeticError.__init__" x) = h₃ at *
    refine kxs_callWith (i := "ArithmeticError.__init__") (x := x) rfl (evalArgs_plain ?_)
    refine Calls.spliced_cons (wpAny_JoinedStr (pos := p4) (joins_ok (env := callEnv (ksFn "__init__" qual (L2.defArgs st) (iniBody fld v1 v2 rest p1 p2 p3 p4 p5 p6 q1 q2 q3 q4) (iniScope fld) dV kV doc pm an (.ref cda) ct cc) hp.objs.size fI) rfl (lk_fld O) O.f5 mF fv _ Str.empty _ _ hps ?_ hns₃ fun out tk ho => ⟨by rw [sizeLine_eq]; omega, ?_⟩))
    · rw [List.length_cons, List.length_cons]
      show 0 + 1000 * (rest.length + 1 + 1) ≤ 100000
      omega
    refine Calls.spliced_nil ⟨hu, ?_⟩
    -- the library's own rules, over the heap of the call with the error itself left out
    have xL : x ≠ hp.objs.size := Nat.ne_of_lt (Heap.lt_size hx)
    have nK : ∀ a o, K.lookup a = some o → a ∉ [x] := fun a o e z => by
      rw [List.mem_singleton.mp z, hnx] at e
      cases e
    have X₀ : K.In (hideAll hp [x]) := fun a o e => hideAll_get [x] (X a o e) (nK a o e)
    have F₃ : Fr (hideAll hp [x]) hp.objs.size h₃ (fun y => [(Str.ofString "self", Value.ref x), (fld, v)].reverse.lookup y) :=
      ⟨hns₃, fun b o e => kk b o (of_hideAll [x] e), Nat.le_of_eq (hideAll_size [x] hp)⟩
    have L₂ : hp.objs.size < h₂.objs.size := by
      obtain ⟨oL, es, ep, hL, _⟩ := hns
      exact Heap.lt_size (k₂ _ _ hL)
    have ux : h₂.objs.size ≠ x := Nat.ne_of_gt (Nat.lt_trans (Heap.lt_size hx) L₂)
    have uo : (hideAll hp [x]).get? h₂.objs.size = none := by
      cases e : (hideAll hp [x]).get? h₂.objs.size with
      | none => rfl
      | some o => exact absurd (Nat.lt_trans (Heap.lt_size (of_hideAll [x] e)) L₂) (Nat.lt_irrefl _)
    have N₃ : News (hideAll hp [x]) hp.objs.size h₃ [(h₂.objs.size, kxs_mw "ArithmeticError.__init__" x), (x, excObj C t0 none .none)] := fun p hp' => by
      rcases List.mem_cons.mp hp' with rfl | hp'
      · exact ⟨hu, Nat.ne_of_gt L₂, uo⟩
      · obtain rfl := List.mem_singleton.mp hp'
        exact ⟨hx₃, xL, hideAll_none [x] (List.mem_singleton.mpr rfl)⟩
    refine kxs_call F₃ X₀ N₃ F.excBase_ArithmeticError EC.ei List.mem_cons_self (.tail ux (.head fun p z => nomatch z)) (by show 1 ≤ sizeLine; decide) fun t1 h₄ F₄ N₄ lt₄ => ?_
    have X₄ : K.In h₄ := X₀.keeps F₄.keep
    have hx₄ : h₄.get? x = some (excO C t1) := (N₄ (x, excObj C t1 none .none) (by simp)).1
    have tx : t1 ≠ x := Nat.ne_of_gt (lt₄ (x, excObj C t0 none .none) (by simp))
    refine ks_wpAt_execs_cons (ks_wpAt_Assign_Attr (wpAt_of_wpAny (wpAny_Name (wpAny_loadName_local rfl (lk_fld O) F₄.ns mF ?_) O.f5)))
    refine wpAny_Name (wpAny_loadName_local rfl lk_self F₄.ns mS ?_) (by decide +kernel)
    refine set_plain X₄ (ox := excO C t1) (od := none) ⟨hx₄, rfl, rfl, trivial⟩ EC.sa ?_
    have free : takerIn K C fld = some none := by
      rw [takerIn, IC.noF]
      rfl
    refine osa_exc0 (pre := [(t1, _), (h₂.objs.size, _)]) (post := []) F.store_ArithmeticError F₄ N₄ X₄ EC.eo free EC.hdC (fun p z => ?_) (fun p z => nomatch z) (putName_dict _ _ _ _ _ _) rfl (by show 1 ≤ 1000; decide) fun dx h₅ F₅ N₅ lt₅ => ?_
    · rcases List.mem_cons.mp z with rfl | z
      · exact tx
      · obtain rfl := List.mem_singleton.mp z
        exact ux
    refine wpAt_of_wpAny (wpAny_execs_nil ?_)
    have xd : x < dx := lt₅ (x, excObj C t1 none .none) (by simp)
    have ud : h₂.objs.size < dx := lt₅ (h₂.objs.size, kxs_mw "ArithmeticError.__init__" x) (by simp)
    exact hq h₅ _ dx ⟨fun b o hb e => F₅.keep b o (hideAll_get [x] e fun z => hb (List.mem_singleton.mp z)), ⟨t1, (N₅ (x, excObj C t1 (some dx) .none) (by simp)).1⟩, Nat.le_of_lt (Nat.lt_trans L₂ ud), Nat.ne_of_gt xd, one_key (N₅ _ List.mem_cons_self).1⟩
end
end ErrX
end PySem

namespace PySem
namespace ErrX
open PySem.W PySem.Calls PyProof.Rows PySem.HandSPX
/-- a made error with one field -/
structure Made1 (h h' : Heap) (e C d : Addr) (fld : Str) (v : Value) : Prop where
  keep : ∀ b o, h.get? b = some o → h'.get? b = some o
  new : h.objs.size ≤ e
  obj : ∃ oe vs, h'.get? e = some oe ∧ oe.cls = .ref C ∧ oe.dict = some d ∧ oe.data = .fields vs ∧ vs[1]? = some .none ∧ vs[2]? = some .none
  dbig : h.objs.size ≤ d
  dne : d ≠ e
  ns : h'.Ns1 d (fun y => if y = fld then some v else none)
/-- its __init__ does as it should -/
structure IniOk (prog : Program) (w : World) (K : Frag) (mg : Str → Option Value) (C fI : Addr) (fld : Str) : Prop where
  iC : findIn K (.ref C) "__init__" = some (some (.ref fI))
  tC : typeIn K (.ref fI) = some (.type "function")
  run : ∀ (A : Around) (R : Result → Shared → Prop) (s : Shared) (x t0 : Addr) (v : Value), L2.Mod K mg s.heap → s.heap.get? x = some (excO C t0) → K.lookup x = none → A.depth < recursionLimit → FmtOk v →
    (∀ h' tk dx, IniEnd s.heap h' x C dx fld v → R (.ok (.ret .none)) { s with heap := h', toks := tk }) → codeAny (model prog w) A (.call (.ref fI) ⟨[.ref x, v], []⟩) R s
section
variable {prog : Program} {w : World} {A : Around} {E : Value → Shared → Prop} {R : Result → Shared → Prop} {s : Shared} {K : Frag} {mg : Str → Option Value} {C fI : Addr} {nm fld : Str}
theorem err_made (EC : ErrC K mg nm C) (IO : IniOk prog w K mg C fI fld) {v : Value} (MO : L2.Mod K mg s.heap) (hroom : A.depth + 1 < recursionLimit) (fv : FmtOk v)
    (hq : ∀ h' tk e d, Made1 s.heap h' e C d fld v → R (.ok (.ret (.ref e))) { s with heap := h', toks := tk }) :
    codeAny (model prog w) A (.call (.ref C) ⟨[v], []⟩) R s := by
  have X := MO.kin
  obtain ⟨nm', N', qn, bs, bm, hdct, sn, sub, ab, col, dd, k0, k1, k2, k3, k5, hC, hT⟩ := excInit_of X EC.ei
  obtain ⟨hp, g, dr, tk, os⟩ := s
  have k : ∀ b o, hp.get? b = some o → ((hp.push (kdv_tup [v])).push (excO C hp.objs.size)).get? b = some o := fun b o e => Heap.get?_push_of_some _ (Heap.get?_push_of_some _ e)
  have hget : ((hp.push (kdv_tup [v])).push (excO C hp.objs.size)).get? (hp.objs.size + 1) = some (excO C hp.objs.size) := by heap_get
  have hnx : K.lookup (hp.objs.size + 1) = none := by
    cases e : K.lookup (hp.objs.size + 1) with
    | none => rfl
    | some o =>
      have z : hp.get? (hp.objs.size + 1) = some o := X _ _ e
      exact absurd (Nat.lt_of_succ_lt (Heap.lt_size z)) (Nat.lt_irrefl _)
  have MO' : L2.Mod K mg ((hp.push (kdv_tup [v])).push (excO C hp.objs.size)) := by
    obtain ⟨mb, h1, h2⟩ := MO.blt
    exact ⟨X.keeps k, MO.glob.keeps k, ⟨mb, h1.keeps k, h2⟩, MO.nolimit.keeps k⟩
  refine call_own F.excBase_ArithmeticError hT hC (looks_findIn X IO.iC) (fun self => bind_fn X self IO.tC) (by show 1 ≤ sizeLine; decide) ?_
  refine IO.run _ _ ⟨(hp.push (kdv_tup [v])).push (excO C hp.objs.size), g, dr, tk, os⟩ _ _ _ MO' hget hnx ?_ fv fun h' tk' dx ⟨k', ⟨t1, hx⟩, dn, dne, hns⟩ => ?_
  · show A.depth + 1 < recursionLimit
    exact hroom
  · have old : ∀ b o, hp.get? b = some o → h'.get? b = some o := fun b o e => k' b o (Nat.ne_of_lt (Nat.lt_succ_of_lt (Heap.lt_size e))) (k b o e)
    have z : hp.objs.size + 1 + 1 ≤ dx := by
      first
        | (simpa only [Heap.size_push] using dn)
        | exact dn
        | (have q := dn; rw [Heap.size_push, Heap.size_push] at q; exact q)
    exact ⟨rfl, hq h' tk' (hp.objs.size + 1) dx ⟨old, Nat.le_succ _, ⟨_, _, hx, rfl, rfl, rfl, rfl, rfl⟩, Nat.le_trans (Nat.le_trans (Nat.le_succ _) (Nat.le_succ _)) z, dne, hns⟩⟩
end
end ErrX
end PySem
namespace E1
open PySem PySem.Spec PyProof.Rows L2
open PySem.ErrX (ErrC IniOk FmtOk)
/-- a value that is written as a text of at most a thousand signs -/
def VFmt (v : V) : Prop := (∃ y : Str, v = .str y ∧ y.length ≤ 1000) ∨ ∃ i : Int, v = .int i ∧ i.natAbs.log2 < 1920 ∧ (toString i : String).length ≤ 1000
theorem VFmt.ok {v : V} {u : Value} (h : VFmt v) (r : RelV v u) : FmtOk u := by
  rcases h with ⟨y, rfl, hy⟩ | ⟨i, rfl, hi, hy⟩
  · obtain ⟨t, rfl⟩ := (show ∃ t, u = Value.str y t from r)
    exact .inl ⟨y, t, rfl, hy⟩
  · obtain ⟨t, rfl⟩ := (show ∃ t, u = Value.int i t from r)
    exact .inr ⟨i, t, rfl, hi, hy⟩
theorem relO_one {fld : Str} {v : V} {v' : Value} (r : RelV v v') (f : Str) : RelO (List.lookup f [(fld, v)]) (if f = fld then some v' else none) := by
  by_cases hw : f = fld
  · subst hw
    rw [if_pos rfl]
    have q : List.lookup f [(f, v)] = some v := by simp [List.lookup]
    rw [q]
    exact r
  · rw [if_neg hw]
    have qw : (f == fld) = false := by simpa using hw
    have q2 : List.lookup f [(fld, v)] = none := by simp [List.lookup, qw]
    rw [q2]
    trivial
section
variable {X : Cx} {C fI : Addr} {x fld : Str}
/-- X(e), an error with one field -/
def tMkErr (C : Addr) (fld : Str) (ta : TA) : L2.St → Hp → XK → Prop := fun σ H Q => ta σ H fun vs H1 => ∃ v, vs = [v] ∧ VFmt v ∧ ∀ d, H1 d = none → Q (.ref C) (some d) (upd H1 d (.xd [(fld, v)]))
theorem pmk_err {a : Expr} {ta : TA} {p pos : Pos} {k : Nat} (EC : ErrC X.K X.mg x C) (IO : IniOk X.prog X.w X.K X.mg C fI fld) (hr : Room k X.A) (ha : PA X [a] ta) (hg : Gl X x := by rfl) (hdb : (x == ("__debug__" : Str)) = false := by decide)
    (he : starEach (a :: []) X.env = (false, eval a X.env) :: starEach [] X.env := by rfl) (hpl : (backTo pos (starEach [] X.env)).any (·.1) = false := by rfl) :
    PMk X (.Call (.Name x p) [a] [] pos) (tMkErr C fld ta) := by
  intro pins s σ H Q I h
  refine wpAny_Call_Name_kw (ld_glob I hg EC.gC ?_ hdb)
  refine PySem.W.callWith_K (h₀ := X.base) I.ok.mod.kin EC.kC (thn (ha.run pos pins s σ H _ I h) fun us s1 hh => ?_) he hpl
  obtain ⟨vs, H1, I1, r1, v, ev, fv, q1⟩ := hh
  subst ev
  refine ⟨I1.kIn, ?_⟩
  cases r1 with
  | cons rv rn =>
    rename_i v' us'
    cases rn
    show wpAny _ _ (call (.ref C) [v']) _ _ _
    have MO : Mod X.K X.mg s1.heap := by
      obtain ⟨mb, h1, h2⟩ := I1.mod.blt
      exact ⟨I1.kIn, I1.mod.glob.keeps I1.bk, ⟨mb, h1.keeps I1.bk, h2⟩, I1.nolimit⟩
    obtain ⟨hp, g, dr, tk, os⟩ := s1
    refine wpAny_call (PySem.ErrX.err_made EC IO MO (by have := hr.dp; omega) (fv.ok rv) fun h' tk' e d M => ?_)
    show MkP X pins σ Q (.ref e) ⟨h', g, dr, tk', os⟩
    obtain ⟨oe, fv', hoe, hc, hd, hdat, h1, hcx⟩ := M.obj
    have hns := M.ns
    obtain ⟨G', g1, g2⟩ := restrict h' fun b => decide (b ≠ e)
    have gk : ∀ b, b ≠ e → G'.get? b = h'.get? b := fun b hb => g1 b (decide_eq_true hb)
    have ge : G'.get? e = none := g2 e (by simp)
    have old : ∀ b o, hp.get? b = some o → G'.get? b = some o := fun b o q => (gk b (Nat.ne_of_lt (Nat.lt_of_lt_of_le (Heap.lt_size q) M.new))).trans (M.keep b o q)
    have ob : ObjOk X.prog X.w (upd H1 d (.xd [(fld, v)])) G' d (.xd [(fld, v)]) :=
      ⟨_, hns.at (fun o q => (gk d M.dne).trans q), fun f => relO_one rv f⟩
    have J : Inv X pins σ (upd H1 d (.xd [(fld, v)])) ⟨G', g, dr, tk', os⟩ := I1.laid (t' := tk') old M.dbig ob
    refine ⟨e, oe, fv', ⟨G', g, dr, tk', os⟩, _, .ref C, some d, rfl, J, fun b o q => ?_, ge, hoe, ⟨hc, hd⟩, hdat, h1, ?_, rfl, I1.bare, raises_own EC.exC EC.tyC, q1 d (I1.hok.fresh M.dbig)⟩
    · by_cases hb : b = e
      · have q' : G'.get? b = some o := q
        rw [hb, ge] at q'; cases q'
      · exact (gk b hb).symm.trans q
    · rw [upd_ne (Ne.symm M.dne)]
      exact I1.hok.fresh M.new
theorem pmk_errN {a : Expr} {ta : TA} {p pos : Pos} {k : Nat} (EC : ErrC X.K X.mg x C) (IO : IniOk X.prog X.w X.K X.mg C fI fld) (hr : Room k X.A) (ha : PA X [a] ta) (hg : Gl X x := by rfl) (hdb : (x == ("__debug__" : Str)) = false := by decide)
    (he : starEach (a :: []) X.env = (false, eval a X.env) :: starEach [] X.env := by rfl) (hpl : (backTo pos (starEach [] X.env)).any (·.1) = false := by rfl) :
    L2N.PMk X (.Call (.Name x p) [a] [] pos) (tMkErr C fld ta) := by
  intro pins s σ H Q I h
  refine wpAny_Call_Name_kw (ld_glob I hg EC.gC ?_ hdb)
  refine PySem.W.callWith_K (h₀ := X.base) I.ok.mod.kin EC.kC (thn (ha.run pos pins s σ H _ I h) fun us s1 hh => ?_) he hpl
  obtain ⟨vs, H1, I1, r1, v, ev, fv, q1⟩ := hh
  subst ev
  refine ⟨I1.kIn, ?_⟩
  cases r1 with
  | cons rv rn =>
    rename_i v' us'
    cases rn
    show wpAny _ _ (call (.ref C) [v']) _ _ _
    have MO : Mod X.K X.mg s1.heap := by
      obtain ⟨mb, h1, h2⟩ := I1.mod.blt
      exact ⟨I1.kIn, I1.mod.glob.keeps I1.bk, ⟨mb, h1.keeps I1.bk, h2⟩, I1.nolimit⟩
    obtain ⟨hp, g, dr, tk, os⟩ := s1
    refine wpAny_call (PySem.ErrX.err_made EC IO MO (by have := hr.dp; omega) (fv.ok rv) fun h' tk' e d M => ?_)
    show L2N.MkP X pins σ Q (.ref e) ⟨h', g, dr, tk', os⟩
    obtain ⟨oe, fv', hoe, hc, hd, hdat, h1, hcx⟩ := M.obj
    have hns := M.ns
    obtain ⟨G', g1, g2⟩ := restrict h' fun b => decide (b ≠ e)
    have gk : ∀ b, b ≠ e → G'.get? b = h'.get? b := fun b hb => g1 b (decide_eq_true hb)
    have ge : G'.get? e = none := g2 e (by simp)
    have old : ∀ b o, hp.get? b = some o → G'.get? b = some o := fun b o q => (gk b (Nat.ne_of_lt (Nat.lt_of_lt_of_le (Heap.lt_size q) M.new))).trans (M.keep b o q)
    have ob : ObjOk X.prog X.w (upd H1 d (.xd [(fld, v)])) G' d (.xd [(fld, v)]) :=
      ⟨_, hns.at (fun o q => (gk d M.dne).trans q), fun f => relO_one rv f⟩
    have J : Inv X pins σ (upd H1 d (.xd [(fld, v)])) ⟨G', g, dr, tk', os⟩ := I1.laid (t' := tk') old M.dbig ob
    refine ⟨e, oe, fv', ⟨G', g, dr, tk', os⟩, _, .ref C, some d, rfl, J, fun b o q => ?_, ge, hoe, ⟨hc, hd, fun vs e => by rw [hdat] at e; cases e; exact hcx⟩, hdat, h1, ?_, rfl, I1.bare, raises_own EC.exC EC.tyC, q1 d (I1.hok.fresh M.dbig)⟩
    · by_cases hb : b = e
      · have q' : G'.get? b = some o := q
        rw [hb, ge] at q'; cases q'
      · exact (gk b hb).symm.trans q
    · rw [upd_ne (Ne.symm M.dne)]
      exact I1.hok.fresh M.new
/-- raise X(e) -/
def tRaiseErr (C : Addr) (fld : Str) (W : WX) (ta : TA) : TS := fun _ σ H => tMkErr C fld ta σ H fun cls d H' => W cls d σ H'
theorem ps_raiseErr {a : Expr} {ta : TA} {W : WX} {p pos pos2 : Pos} {k : Nat} (hc : X.calm = true) (EC : ErrC X.K X.mg x C) (IO : IniOk X.prog X.w X.K X.mg C fI fld) (hr : Room k X.A) (tk : Takes X W) (ha : PA X [a] ta) (hg : Gl X x := by rfl) (hdb : (x == ("__debug__" : Str)) = false := by decide)
    (he : starEach (a :: []) X.env = (false, eval a X.env) :: starEach [] X.env := by rfl) (hpl : (backTo pos (starEach [] X.env)).any (·.1) = false := by rfl) :
    PS X (.Raise (some (.Call (.Name x p) [a] [] pos)) none pos2) (tRaiseErr C fld W ta) := ps_raise hc tk (pmk_err EC IO hr ha hg hdb he hpl)
theorem ps_raiseErrN {a : Expr} {ta : TA} {W : WX} {p pos pos2 : Pos} {k : Nat} (hc : X.calm = true) (EC : ErrC X.K X.mg x C) (IO : IniOk X.prog X.w X.K X.mg C fI fld) (hr : Room k X.A) (tk : L2N.Takes X W) (ha : PA X [a] ta) (hg : Gl X x := by rfl) (hdb : (x == ("__debug__" : Str)) = false := by decide)
    (he : starEach (a :: []) X.env = (false, eval a X.env) :: starEach [] X.env := by rfl) (hpl : (backTo pos (starEach [] X.env)).any (·.1) = false := by rfl) :
    PS X (.Raise (some (.Call (.Name x p) [a] [] pos)) none pos2) (tRaiseErr C fld W ta)   := L2N.ps_raise hc tk (pmk_errN EC IO hr ha hg hdb he hpl)
/-- e.f of a caught error -/
theorem ErrC.xf {K : PySem.W.Frag} {mg : Str → Option Value} (EC : ErrC K mg x C) : XfC K C := ⟨EC.ga, EC.gg, EC.exC, EC.hdC⟩
end
end E1

namespace E1
open PySem PySem.Spec PyProof.Rows L2
open PySem.ErrX (ErrC IniOk FmtOk)
/-- isinstance(e, c), e the error that the suite holds, its class an own one -/
def rIsX (K : PySem.W.Frag) (a : Addr) (cls : Value) (d : Option Addr) : List V → Hp → VK → Prop := fun xs H Q => ∃ (D : Addr) (c : V) (cv : Value) (b : Bool), cls = .ref D ∧ ExcC K D ∧ xs = [.ref a, c] ∧ (∀ u, RelV c u → u = cv) ∧
  (∀ dd, d = some dd → ∃ fs, H dd = some (.xd fs)) ∧ PySem.W.kitOne K (.ref D) cv = some b ∧ Q (.bl b) H
theorem call_isX {X : Cx} {a : Addr} {cls : Value} {d : Option Addr} {oe : Obj} {pn : List (Addr × Obj)} (hz : Zc cls d oe) (hf : ∃ vs, oe.data = .fields vs) : CallR (X.suite a ((a, oe) :: pn)) (.builtin "isinstance") (rIsX X.K a cls d) := by
  intro pins s σ H xs us Q I r ⟨D, c, cv, b, hcls, C, hxs, only, hdd, yes, q⟩
  subst hcls hxs
  match d, hz, hdd, us, r with
  | none, hz, _, us, r => exact call_isE C hz hf pins s σ H _ us Q I r ⟨c, cv, b, rfl, only, yes, q⟩
  | some dd, ⟨kind, own⟩, hdd, [x, u], .cons hx (.cons hu .nil) =>
    cases hx
    cases only u hu
    obtain ⟨fs, tracked⟩ := hdd dd rfl
    obtain ⟨m, space, _⟩ := show ObjOk X.prog X.w H s.heap dd (.xd fs) from I.hok dd _ tracked
    obtain ⟨dict, lies, _⟩ := lookIn_ns space
    obtain ⟨parts, hparts⟩ := hf
    have held := (I.pin (a, oe) (by simp)).1
    have inst : PySem.W.InstAt s.heap a oe D (some dict) := by
      refine ⟨held, kind, ?_, ?_⟩
      · obtain ⟨_, _, dat, _⟩ := oe
        dsimp only at hparts ⊢
        rw [hparts]
        rfl
      · simpa [own] using lies
    have known : (PySem.W.clsIn X.K D).isSome = true := Option.isSome_iff_exists.mpr ((PySem.W.any_some C.hd).imp fun _ z => z.1)
    exact PySem.W.kia_one (PySem.W.kitx_exc known C.hg C.hk C.hs C.ha C.hn C.ht C.hm) I.kIn inst yes (fun z => nomatch z) fun tk => ⟨.bl b, H, I.kept (t' := tk) fun _ _ z => z, rfl, q⟩
/-! ### calls of defs that may raise -/
def CalX (P : Program) (w : World) (K : PySem.W.Frag) (mg : Str → Option Value) (base : Heap) (k : Nat) (x : Str) (ps : List Str) (dvs : List V) (sp : Sp) : Prop :=
  ∃ (f : Addr) (fd : FuncData) (ds : List Value), mg x = some (.ref f) ∧ PySem.W.keepIn K (.ref f) = true ∧ Vals dvs ds ∧ Binds K fd ps ds ∧ FnOk P w K mg base (L2.CX P w) k f fd ps sp
theorem pe_calx {X : Cx} {k j : Nat} {x : Str} {ps : List Str} {dvs : List V} {sp : Sp} {e : Expr} {es : List Expr} {t : TA} {p pos : Pos} (c : CalX X.prog X.w X.K X.mg X.base k x ps dvs sp) (hr : Room j X.A) (ha : PA X (e :: es) t) (hle : k ≤ j := by decide) (hg : Gl X x := by rfl)
    (hdb : (x == ("__debug__" : Str)) = false := by decide) (he : starEach (e :: es) X.env = (false, eval e X.env) :: starEach es X.env := by rfl) (hpl : (backTo pos (starEach es X.env)).any (·.1) = false := by rfl) :
    PE X (.Call (.Name x p) (e :: es) [] pos) (tCall sp dvs E0 t) := by
  obtain ⟨f, fd, ds, h1, h2, hd, h3, h4⟩ := c
  exact pe_call h4 (hr.mono hle) hg h1 h2 h3 hd passL ha hdb he hpl
def CalXK (P : Program) (w : World) (K : PySem.W.Frag) (mg : Str → Option Value) (base : Heap) (k : Nat) (x : Str) (ps : List Str) (n : Nat) (ks : List Str) (gV : List V → List V → List V) (sp : Sp) : Prop :=
  ∃ (f : Addr) (fd : FuncData) (g : List Value → List Value → List Value), mg x = some (.ref f) ∧ PySem.W.keepIn K (.ref f) = true ∧ KBn K fd ps n ks g gV ∧ FnOk P w K mg base (L2.CX P w) k f fd ps sp
theorem pe_calkx0 {X : Cx} {k j : Nat} {x : Str} {ps ks : List Str} {gV : List V → List V → List V} {sp : Sp} {kws : List Keyword} {tk : TA} {p pos : Pos} (c : CalXK X.prog X.w X.K X.mg X.base k x ps 0 ks gV sp) (hr : Room j X.A)
    (hkw : PK X kws tk) (hle : k ≤ j := by decide) (hg : Gl X x := by rfl) (hall : (backToKw pos (keywordEach kws X.env)).all (·.1.isSome) = true := by rfl) (hks : (backToKw pos (keywordEach kws X.env)).filterMap (·.1) = ks := by rfl)
    (hdb : (x == ("__debug__" : Str)) = false := by decide)
    (hpl : ((backTo pos (starEach [] X.env)).any (·.1) || (backToKw pos (keywordEach kws X.env)).any (·.1.isNone)) = false := by rfl) :
    PE X (.Call (.Name x p) [] kws pos) (tCallN 0 ks.length sp gV E0 tNil tk) := by
  obtain ⟨f, fd, g, h1, h2, h3, h4⟩ := c
  refine ⟨fun pins s σ H Q I h => ?_⟩
  refine wpAny_Call_Name_kw (ld_glob I hg h1 ?_ hdb)
  refine PySem.W.callWith_KW0 (h₀ := X.base) I.ok.mod.kin h2 hall (thn (hkw.run pos pins s σ H _ I h) fun ws s2 ⟨zs, H2, I2, rz, l1, l2, q2⟩ => ⟨I2.kIn, ?_⟩) hpl
  rw [hks]
  exact run_fnN (vs := []) (us := []) h4 (hr.mono hle) h3 passL I2 .nil rz l1 l2 q2
/-- a call whose error a try around it waits for -/
theorem pe_calxS {X : Cx} {k j : Nat} {x : Str} {ps : List Str} {sp : Sp} {e : Expr} {es : List Expr} {t : TA} {p pos : Pos} {W : WX} (c : CalX X.prog X.w X.K X.mg X.base k x ps [] sp) (hr : Room j X.A) (tk : Takes X W) (ha : PA X (e :: es) t) (hle : k ≤ j := by decide) (hg : Gl X x := by rfl)
    (hdb : (x == ("__debug__" : Str)) = false := by decide) (he : starEach (e :: es) X.env = (false, eval e X.env) :: starEach es X.env := by rfl) (hpl : (backTo pos (starEach es X.env)).any (·.1) = false := by rfl) :
    PE X (.Call (.Name x p) (e :: es) [] pos) (tCallS sp (WE W) t) := by
  obtain ⟨f, fd, ds, h1, h2, hd, h3, h4⟩ := c
  cases hd
  exact pe_callS h4 (hr.mono hle) hg h1 h2 h3 (fun σ => passAt tk σ) ha hdb he hpl
end E1

namespace E1
open PySem PySem.Spec PyProof.Rows L2
/-! ### a def of the text that is called by its name -/
def Cal (P : Program) (w : World) (K : PySem.W.Frag) (mg : Str → Option Value) (base : Heap) (k : Nat) (x : Str) (ps : List Str) (sp : Sp) : Prop :=
  ∃ (f : Addr) (fd : FuncData), mg x = some (.ref f) ∧ PySem.W.keepIn K (.ref f) = true ∧ Binds K fd ps [] ∧ FnOk P w K mg base CX0 k f fd ps sp
theorem pe_cal {X : Cx} {k j : Nat} {x : Str} {ps : List Str} {sp : Sp} {e : Expr} {es : List Expr} {t : TA} {p pos : Pos} (c : Cal X.prog X.w X.K X.mg X.base k x ps sp) (hr : Room j X.A) (ha : PA X (e :: es) t) (hle : k ≤ j := by decide) (hg : Gl X x := by rfl)
    (hdb : (x == ("__debug__" : Str)) = false := by decide) (he : starEach (e :: es) X.env = (false, eval e X.env) :: starEach es X.env := by rfl) (hpl : (backTo pos (starEach es X.env)).any (·.1) = false := by rfl) :
    PE X (.Call (.Name x p) (e :: es) [] pos) (tCall sp [] E0 t) := by
  obtain ⟨f, fd, h1, h2, h3, h4⟩ := c
  exact pe_call h4 (hr.mono hle) hg h1 h2 h3 .nil pass0 ha hdb he hpl
/-! ### heaps -/
def SameBut (a : Addr) (H H' : Hp) : Prop := ∀ b o, b ≠ a → H b = some o → H' b = some o
theorem SameBut.refl (a : Addr) (H : Hp) : SameBut a H H := fun _ _ _ h => h
theorem SameBut.trans {a : Addr} {H H1 H2 : Hp} (x : SameBut a H H1) (y : SameBut a H1 H2) : SameBut a H H2 := fun b o n h => y b o n (x b o n h)
theorem SameBut.of {a : Addr} {H H' : Hp} (s : Same H H') : SameBut a H H' := fun b o _ h => s b o h
theorem SameBut.upd {a : Addr} {H : Hp} {o : HO} : SameBut a H (upd H a o) := fun b _ n h => by
  rw [upd_ne n]
  exact h
theorem same_new {H : Hp} {p : Addr} {o : HO} (h : H p = none) : Same H (upd H p o) := fun b x e => by
  rw [upd_ne (ne_of_none e h)]
  exact e
theorem Same.tup {K : PySem.W.Frag} {H H' : Hp} {a : Addr} {xs : List V} (e : Same H H') (h : SqT K H a xs) : SqT K H' a xs := by
  rcases h with (h | ⟨o, h⟩) | h
  · exact .inl (.inl (e _ _ h))
  · exact .inl (.inr ⟨o, e _ _ h⟩)
  · exact .inr h
theorem a0 {α : Type} {x : α} {l : List α} : atI (x :: l) 0 = some x := atI_nat (j := 0) rfl
theorem a1 {α : Type} {x y : α} {l : List α} : atI (x :: y :: l) 1 = some y := atI_nat (j := 1) rfl
theorem a2 {α : Type} {x y z : α} {l : List α} : atI (x :: y :: z :: l) 2 = some z := atI_nat (j := 2) rfl
theorem toB {p : Prop} [Decidable p] (h : decide p = true) : p := of_decide_eq_true h
theorem toNB {p : Prop} [Decidable p] (h : ¬ decide p = true) : ¬ p := fun z => h (decide_eq_true z)
/-- a well: the digits left, a number that is mixed, how many were mixed (at most c) -/
def WellAt (H : Hp) (a : Addr) (c : Int) : Prop := ∃ x y z : Int, H a = some (.lst [.int x, .int y, .int z]) ∧ 0 ≤ y ∧ y < 2147483647 ∧ 0 ≤ z ∧ z ≤ c
theorem WellAt.mono {H : Hp} {a : Addr} {c d : Int} (h : WellAt H a c) (l : c ≤ d) : WellAt H a d := by
  obtain ⟨x, y, z, e, h1, h2, h3, h4⟩ := h
  exact ⟨x, y, z, e, h1, h2, h3, by omega⟩
theorem WellAt.same {H H' : Hp} {a : Addr} {c : Int} (h : WellAt H a c) (s : Same H H') : WellAt H' a c := by
  obtain ⟨x, y, z, e, h1, h2, h3, h4⟩ := h
  exact ⟨x, y, z, s _ _ e, h1, h2, h3, h4⟩
theorem WellAt.but {H H' : Hp} {a b : Addr} {c : Int} (h : WellAt H a c) (s : SameBut b H H') (n : a ≠ b) : WellAt H' a c := by
  obtain ⟨x, y, z, e, h1, h2, h3, h4⟩ := h
  exact ⟨x, y, z, s _ _ n e, h1, h2, h3, h4⟩
/-! ### promises of the law's helpers -/
def spCell (K : PySem.W.Frag) : Sp := fun vs H Q _ => ∃ (a : Addr) (ns : List Int) (k : Nat), vs = [.ref a, .int k] ∧ SqL K H a (ns.map V.int) ∧ Q (.int (ns.getD k 0)) H
def spWell : Sp := fun vs H Q _ => ∃ c : Int, vs = [.int c] ∧ ∀ p : Addr, H p = none → ∀ H', Same H H' → WellAt H' p 0 → Q (.ref p) H'
/-- a number from 0 to below m; the well has at most one more -/
def spDraw : Sp := fun vs H Q _ => ∃ (a : Addr) (c m : Int), vs = [.ref a, .int m] ∧ WellAt H a c ∧ c ≤ 1000000000 ∧ 0 < m ∧ m.natAbs < 2 ^ 9000 ∧
  ∀ (r : Int) (H' : Hp), 0 ≤ r → r < m → SameBut a H H' → (∀ b, H b = none → H' b = none) → WellAt H' a (c + 1) → Q (.int r) H'
def topS (i : Nat) : Stmt := PySem.Challenge.pw_echobound_k60_whole_boxes_forged.main.body.getD i (.Pass ⟨0, 0, 0, 0⟩)
abbrev s__wall : Stmt := topS 0
abbrev s_is_whole : Stmt := topS 12
abbrev s_shared_divisor : Stmt := topS 13
abbrev s_lowest : Stmt := topS 14
abbrev s_times : Stmt := topS 15
abbrev s_divided : Stmt := topS 16
abbrev s_two_to : Stmt := topS 17
abbrev s_downward : Stmt := topS 19
abbrev s_upward : Stmt := topS 20
abbrev s_inward : Stmt := topS 21
abbrev s_outward : Stmt := topS 22
abbrev s_nearest_greater : Stmt := topS 23
abbrev s_nearest_even : Stmt := topS 24
abbrev s_nearest_far : Stmt := topS 25
abbrev s_is_manner : Stmt := topS 27
abbrev s_rounded : Stmt := topS 28
abbrev s_is_width : Stmt := topS 34
abbrev s_is_point : Stmt := topS 35
abbrev s_is_ends : Stmt := topS 36
abbrev s_is_place : Stmt := topS 46
abbrev s_is_factor : Stmt := topS 47
abbrev s_in_point : Stmt := topS 48
abbrev s_old_point : Stmt := topS 49
abbrev s_times_point : Stmt := topS 50
abbrev s_sum_point : Stmt := topS 51
abbrev s_move_point : Stmt := topS 52
abbrev s_keep_point : Stmt := topS 53
abbrev s_is_written_as_row : Stmt := topS 55
abbrev s_row_point : Stmt := topS 56
abbrev s_check_length : Stmt := topS 57
abbrev s_check_forms : Stmt := topS 58
abbrev s_is_hold : Stmt := topS 59
abbrev s_check_holds : Stmt := topS 60
abbrev s_checked_points : Stmt := topS 61
abbrev s_check_links : Stmt := topS 62
abbrev s_enter_form : Stmt := topS 64
abbrev s_swept : Stmt := topS 65
abbrev s_check_ends : Stmt := topS 68
abbrev s_has_in_it : Stmt := topS 69
abbrev s_times_stretch : Stmt := topS 70
abbrev s_sum_stretch : Stmt := topS 71
abbrev s_ends_kept : Stmt := topS 72
abbrev s_is_over : Stmt := topS 73
abbrev s_all_words : Stmt := topS 74
abbrev s_keep_stretch : Stmt := topS 75
abbrev s_stretch_of_row : Stmt := topS 76
abbrev s_hull : Stmt := topS 77
abbrev s_widened : Stmt := topS 78
abbrev s_box : Stmt := topS 79
abbrev s_is_hold_stretch : Stmt := topS 80
abbrev s_are_hold_stretches : Stmt := topS 81
abbrev s_is_box : Stmt := topS 82
abbrev s_may_over : Stmt := topS 83
abbrev s__law_cell_at : Stmt := topS 85
abbrev s__law_well : Stmt := topS 86
abbrev s__law_draw : Stmt := topS 87
abbrev s__law_form : Stmt := topS 88
abbrev s__law_word : Stmt := topS 89
abbrev s__law_row : Stmt := topS 90
abbrev s__law_begin : Stmt := topS 91
abbrev s__law_mixed : Stmt := topS 92
abbrev s__law_link : Stmt := topS 93
abbrev s__law_net : Stmt := topS 94
abbrev s__law_made : Stmt := topS 95
abbrev s__law_rounded : Stmt := topS 96
abbrev s__law_kept : Stmt := topS 97
abbrev s__law_points : Stmt := topS 98
abbrev s__law_sum : Stmt := topS 99
abbrev s__law_keep : Stmt := topS 100
abbrev s__law_stretches : Stmt := topS 101
abbrev s__law_whole : Stmt := topS 102
abbrev s__law_is_box : Stmt := topS 103
abbrev s__law_may_over : Stmt := topS 104
abbrev s__law_all : Stmt := topS 105
abbrev s__law_forged : Stmt := topS 106
abbrev s__law_refused : Stmt := topS 107
abbrev s__law_bad_words : Stmt := topS 108
abbrev s__law_start_box : Stmt := topS 109
abbrev s_law : Stmt := topS 110
section
variable {P : Program} {w : World} {K : PySem.W.Frag} {mg : Str → Option Value} {base : Heap}
theorem sc__law_cell_at : FnScope ["_law_script", "_law_k"] ["_law_script", "_law_k"] (defScope s__law_cell_at) := ⟨rfl, rfl, rfl, by decide +kernel, rfl, by decide +kernel, by decide +kernel⟩
theorem sc__law_well : FnScope ["_law_cell"] ["_law_cell"] (defScope s__law_well) := ⟨rfl, rfl, rfl, by decide +kernel, rfl, by decide +kernel, by decide +kernel⟩
theorem sc__law_draw : FnScope ["_law_well_here", "_law_many", "_law_found", "_law_number"] ["_law_well_here", "_law_many"] (defScope s__law_draw) := ⟨rfl, rfl, rfl, by decide +kernel, rfl, by decide +kernel, by decide +kernel⟩
theorem ok_cell {f : Addr} {fd : FuncData} {k : Nat} (F : Fun K "_law_cell_at" "_law_cell_at" s__law_cell_at f fd) (zl : mg "len" = none) : FnOk P w K mg base CX0 (k + 1) f fd ["_law_script", "_law_k"] (spCell K) := by
  refine F.ok sc__law_cell_at (fun vs H Q E h => ?_) (fun cdv A outer s H vs Q E hr h => ?_)
  · obtain ⟨a, ns, k, rfl, _⟩ := h
    rfl
  · obtain ⟨a, ns, k, rfl, hS, q⟩ := h
    refine ⟨_, (pss_cons (ps_if (pt_cmpR op_lt (pv 1) (pe_callB call_len_seq (by rfl) zl PySem.boot_len (pa_cons (pv 0) pa_nil)) (nomark _)) (pss_one (ps_ret (pe_ix ix_list (pv 0) (pv 1) (fun _ _ => rfl)))) pss_nil)
      (pss_one (ps_ret pe_int))), ?_⟩
    refine ⟨_, rfl, _, rfl, a, _, rfl, .inl hS, _, _, rfl, rfl, _, rfl, ite2 (fun c => ?_) (fun c => ?_)⟩
    · have hk : k < ns.length := by
        have := toB c
        rw [List.length_map] at this
        omega
      refine ⟨_, rfl, _, rfl, a, _, k, .int (ns.getD k 0), rfl, rfl, hS, atI_nat ?_, q⟩
      rw [List.getElem?_map, List.getElem?_eq_getElem hk, List.getD_eq_getElem?_getD, List.getElem?_eq_getElem hk]
      rfl
    · have hk : ¬ k < ns.length := fun z => by
        have := toNB c
        rw [List.length_map] at this
        omega
      have e : ns.getD k 0 = 0 := by
        rw [List.getD_eq_getElem?_getD, List.getElem?_eq_none (by omega)]
        rfl
      rw [e] at q
      exact q
theorem ok_well {f : Addr} {fd : FuncData} {k : Nat} (F : Fun K "_law_well" "_law_well" s__law_well f fd) (zi : mg "int" = none) : FnOk P w K mg base CX0 (k + 1) f fd ["_law_cell"] spWell := by
  refine F.ok sc__law_well (fun vs H Q E h => ?_) (fun cdv A outer s H vs Q E hr h => ?_)
  · obtain ⟨c, rfl, _⟩ := h
    rfl
  · obtain ⟨c, rfl, q⟩ := h
    refine ⟨_, (pss_one (ps_ret (pe_lst (pa_cons (pe_op op_mul (pv 0) (pe_callTy call_int1 (by rfl) zi (by decide +kernel) (pa_cons (pe_cmpR op_ge (pv 0) (pe_op op_pow pe_int pe_int) (nomark _)) pa_nil))) (pa_cons (pe_op op_mod (pv 0) pe_int) (pa_cons pe_int pa_nil)))))), ?_⟩
    refine ⟨_, rfl, _, rfl, _, _, rfl, rfl, ⟨by decide, by decide, by decide⟩, _, _, rfl, rfl, .inr ⟨_, rfl, _, _, rfl, rfl, .inr ?_, ?_⟩⟩
    · split <;> decide
    · refine ⟨_, rfl, _, _, rfl, rfl, (by show (0 : Int) < 2147483647; decide), (by show 3 ≤ sizeLine; decide), fun p hp => ?_⟩
      exact q p hp _ (same_new hp) ⟨_, _, _, upd_same, Int.emod_nonneg _ (by decide), Int.emod_lt_of_pos _ (by decide), Int.le_refl _, Int.le_refl _⟩
theorem ok_draw {f : Addr} {fd : FuncData} {k : Nat} (F : Fun K "_law_draw" "_law_draw" s__law_draw f fd) : FnOk P w K mg base CX0 (k + 1) f fd ["_law_well_here", "_law_many"] spDraw := by
  refine F.ok sc__law_draw (fun vs H Q E h => ?_) (fun cdv A outer s H vs Q E hr h => ?_)
  · obtain ⟨a, c, m, rfl, _⟩ := h
    rfl
  · obtain ⟨a, c, m, rfl, ⟨x, y, z, hw, y0, y1, z0, z1⟩, hc, m0, m1, q⟩ := h
    have fr : ∀ o b, H b = none → (upd H a o) b = none := fun o b hb => by
      rw [upd_ne (fun e => by rw [e, hw] at hb; cases hb)]
      exact hb
    refine ⟨_, (pss_cons (ps_if (pt_cmpR op_gt (pe_ix ix_list (pv 0) pe_int (fun _ _ => rfl)) pe_int (nomark _)) (pss_cons (ps_set (i := 2) sc__law_draw.nd rfl (.inl rfl) (pe_op op_mod (pe_ix ix_list (pv 0) pe_int (fun _ _ => rfl)) (pv 1)))
      (pss_cons (ps_asg (pe_op op_fdivW (pe_ix ix_list (pv 0) pe_int (fun _ _ => rfl)) (pv 1)) (pg_sub (pv 0) pe_int set_list))
      (pss_one (ps_ret (pv 2))))) pss_nil)
      (pss_cons (ps_asg (pe_op op_add (pe_ix ix_list (pv 0) pe_int (fun _ _ => rfl)) pe_int) (pg_sub (pv 0) pe_int set_list))
      (pss_cons (ps_set (i := 3) sc__law_draw.nd rfl (.inl rfl) (pe_op op_mod (pe_op op_pow (pe_op op_add (pe_op op_add (pe_ix ix_list (pv 0) pe_int (fun _ _ => rfl)) (pe_op op_mul pe_int (pe_ix ix_list (pv 0) pe_int (fun _ _ => rfl)))) pe_int) pe_int) pe_int))
      (pss_cons (ps_set (i := 3) sc__law_draw.nd rfl (.inl rfl) (pe_op op_mod (pe_op op_mul (pv 3) (pe_op op_add (pe_op op_fdiv (pv 3) pe_int) pe_int)) pe_int))
      (pss_one (ps_ret (pe_op op_mod (pe_op op_mod (pe_op op_mul (pv 3) (pe_op op_add (pe_op op_fdiv (pv 3) pe_int) pe_int)) pe_int) (pv 1)))))))), ?_⟩
    refine ⟨_, rfl, a, _, 0, .int x, rfl, rfl, SqL.of hw, a0, x, 0, rfl, rfl, _, rfl, ite2 (fun c => ?_) (fun c => ?_)⟩
    · refine ⟨_, rfl, a, _, 0, .int x, rfl, rfl, SqL.of hw, a0, _, rfl, x, m, rfl, rfl, m0, ?_⟩
      refine ⟨_, rfl, a, _, 0, .int x, rfl, rfl, SqL.of hw, a0, _, rfl, x, m, rfl, rfl, wide_div m0 m1 (by decide) (Nat.le_refl _), _, rfl, a, _, 0, 0, rfl, rfl, hw, rfl, ?_⟩
      refine ⟨_, rfl, q _ _ (Int.emod_nonneg _ (by omega)) (Int.emod_lt_of_pos _ m0) SameBut.upd (fr _) ⟨_, _, _, upd_same, y0, y1, z0, by omega⟩⟩
    · refine ⟨_, rfl, a, _, 2, .int z, rfl, rfl, SqL.of hw, a2, z, 1, rfl, rfl, _, rfl, a, _, 2, 2, rfl, rfl, hw, rfl, ?_⟩
      have hw2 : (upd H a (.lst [V.int x, V.int y, V.int (z + 1)])) a = some (.lst [V.int x, V.int y, V.int (z + 1)]) := upd_same
      have n5 : 0 ≤ y + 7919 * (z + 1) + 1 ∧ y + 7919 * (z + 1) + 1 < 18446744073709551616 := by omega
      refine ⟨_, rfl, a, _, 1, .int y, rfl, rfl, SqL.of hw2, a1, _, rfl, a, _, 2, .int (z + 1), rfl, rfl, SqL.of hw2, a2, _, _, rfl, rfl, .inl ⟨by decide, by decide⟩, _, _, rfl, rfl, _, _, rfl, rfl, _, _, rfl, rfl, ⟨by decide, by decide, ?_⟩, _, _, rfl, rfl, (by show (0 : Int) < 2147483647; decide), ?_⟩
      · show (y + 7919 * (z + 1) + 1).natAbs < 18446744073709551616
        omega
      · generalize hn : (y + 7919 * (z + 1) + 1) ^ (5 : Int).toNat % 2147483647 = n
        have n0 : 0 ≤ n := by rw [← hn]; exact Int.emod_nonneg _ (by decide)
        have n1 : n < 2147483647 := by rw [← hn]; exact Int.emod_lt_of_pos _ (by decide)
        refine ⟨_, rfl, _, rfl, _, _, rfl, rfl, ⟨by decide, by decide⟩, _, _, rfl, rfl, _, _, rfl, rfl, .inl ⟨by omega, by omega⟩, _, _, rfl, rfl, (by show (0 : Int) < 2147483629; decide), ?_⟩
        generalize hm : n * (n / 1009 + 69621) % 2147483629 = u
        have u0 : 0 ≤ u := by rw [← hm]; exact Int.emod_nonneg _ (by decide)
        have u1 : u < 2147483629 := by rw [← hm]; exact Int.emod_lt_of_pos _ (by decide)
        refine ⟨_, rfl, _, rfl, _, _, rfl, rfl, ⟨by decide, by decide⟩, _, _, rfl, rfl, _, _, rfl, rfl, .inl ⟨by omega, by omega⟩, _, _, rfl, rfl, (by show (0 : Int) < 2147483587; decide), _, rfl, _, _, rfl, rfl, m0, ?_⟩
        exact q _ _ (Int.emod_nonneg _ (by omega)) (Int.emod_lt_of_pos _ m0) SameBut.upd (fr _) ⟨_, _, _, upd_same, y0, y1, by omega, by omega⟩
end
end E1

namespace E1
open PySem PySem.Spec PyProof.Rows L2
abbrev s_Form___init__ : Stmt := inClass (topS 37) 0
abbrev s_Form_least : Stmt := inClass (topS 37) 1
abbrev s_Form_greatest : Stmt := inClass (topS 37) 2
abbrev s_Form_has : Stmt := inClass (topS 37) 3
abbrev s_Form_step : Stmt := inClass (topS 37) 4
abbrev s_Form_slack : Stmt := inClass (topS 37) 5
abbrev s_Form_value : Stmt := inClass (topS 37) 6
abbrev s_Form_word_for : Stmt := inClass (topS 37) 7
abbrev s_Form_ended : Stmt := inClass (topS 37) 8
abbrev s_Form_kept : Stmt := inClass (topS 37) 9
abbrev s_Form_kept_at : Stmt := inClass (topS 37) 10
abbrev s_Form_bits : Stmt := inClass (topS 37) 11
abbrev s_Form_is_bits : Stmt := inClass (topS 37) 12
abbrev s_Form_word_of : Stmt := inClass (topS 37) 13
abbrev s_Form_added : Stmt := inClass (topS 37) 14
abbrev s_Form___eq__ : Stmt := inClass (topS 37) 15
abbrev s_Form___str__ : Stmt := inClass (topS 37) 16
abbrev s_Form___repr__ : Stmt := inClass (topS 37) 17
abbrev s_Net___init__ : Stmt := inClass (topS 63) 0
abbrev s_Net___eq__ : Stmt := inClass (topS 63) 10
abbrev s_Net___str__ : Stmt := inClass (topS 63) 11
abbrev s_Net___repr__ : Stmt := inClass (topS 63) 12
abbrev s_Net_forms : Stmt := inClass (topS 63) 1
abbrev s_Net_enters : Stmt := inClass (topS 63) 2
abbrev s_Net_rows : Stmt := inClass (topS 63) 3
abbrev s_Net_holds : Stmt := inClass (topS 63) 4
abbrev s_Net_out : Stmt := inClass (topS 63) 5
abbrev s_Net_points : Stmt := inClass (topS 63) 6
abbrev s_Net_keeps : Stmt := inClass (topS 63) 7
abbrev s_Net_start : Stmt := inClass (topS 63) 8
abbrev s_Net___len__ : Stmt := inClass (topS 63) 9
abbrev s_TooMany___init__ : Stmt := inClass (topS 9) 0
/-- a def of the text with its code object -/
structure FunC (K : PySem.W.Frag) (x : Str) (st : Stmt) (f : Addr) (fd : FuncData) (c : Addr) : Prop where
  ex : ∃ (oc : Value) (od : Option Addr) (kV doc pm : Value) (an : Option Addr) (ct : Value) (osl : Array (Option Value)),
    fd = PySem.W.fnOf x x (defArgs st) (defBody st) (defScope st) .none kV doc pm an (.ref c) ct ∧ K.lookup f = some ⟨oc, od, .func fd, osl⟩ ∧ PySem.W.codeIn K (.ref c) x = true
theorem FunC.ok {P : Program} {w : World} {K : PySem.W.Frag} {mg : Str → Option Value} {base : Heap} {x : Str} {st : Stmt} {f c : Addr} {fd : FuncData} {N ps : List Str} {k : Nat} {sp : Sp} (F : FunC K x st f fd c) (S : FnScope N ps (defScope st)) (len : ∀ vs H Q E, sp vs H Q E → vs.length = ps.length)
    (hb : ∀ (A : Around) (out : List Env) (s : Shared) (H : Hp) (vs : List V) (Q : VK) (E : XK), Room k (A.deeper (envOfC x (defScope st) s.heap.objs.size f (.ref c))) → sp vs H Q E →
      ∃ t, PSs (cxOf CX0 P w K mg base N x (defScope st) f (.ref c) A out s H E).nox (defBody st) t ∧ t { nx := fun _ H' => Q .non H', rt := Q } (start N vs) H) : FnOk P w K mg base CX0 (k + 1) f fd ps sp := by
  obtain ⟨oc, od, kV, doc, pm, an, ct, osl, rfl, lk, hcd⟩ := F.ex
  exact fn_of lk hcd S len fun A out s H vs Q E hr hsp => let ⟨t, h, q⟩ := hb A out s H vs Q E hr hsp; ⟨t, h.nox, q⟩
end E1

namespace E1
open PySem PySem.Spec PyProof.Rows L2


/-! ### error classes over the small head -/
abbrev IniV : Type := Option (Str × Str × Arguments × FuncBody × Scope × Addr × List Str × Addr)
def iniA (K : PySem.W.Frag) (x : Str) : Addr := He.ma K (He.ga K x) "__init__"
def iniF (K : PySem.W.Frag) (x : Str) : Option FuncData := match K.lookup (iniA K x) with
  | some ⟨_, _, .func fd, _⟩ => some fd
  | _ => none
def iniW (K : PySem.W.Frag) (x : Str) : IniV := (iniF K x).map fun fd => (fd.name, fd.qualname, fd.params, fd.body, fd.scope, fd.globals, fd.closure.map (·.1), fd.builtins)
structure ErrD where
  x : Str
  qual : Str
  params : Arguments
  body : List Stmt
  scope : Scope
  one : Bool
def ErrD.val (d : ErrD) : IniV := some ("__init__", d.qual, d.params, .stmts d.body, d.scope, mainGlobals, ["__class__"], builtinsNs)
/-- one default, or none -/
def iniD (K : PySem.W.Frag) (one : Bool) (v : Value) : Bool := match one, v with
  | false, v => decide (v = .none)
  | true, .ref T => (match K.lookup T with
    | some ⟨_, _, .seq its _, _⟩ => decide (its.size = 1)
    | _ => false)
  | true, _ => false
def iniS (v : Option Value) : Bool := match v with
  | some (.str f _) => decide (f = ("/claim/cut.py" : Str))
  | _ => false
def iniC (K : PySem.W.Frag) (qual : Str) (v : Value) : Bool := match v with
  | .ref c => PySem.W.codeIn K (.ref c) qual && (match K.lookup c with
    | some ⟨_, _, .fields vs, _⟩ => iniS (vs[2]?)
    | _ => false)
  | _ => false
def iniL (K : PySem.W.Frag) (x : Str) (l : List (Str × Addr)) : Bool := match l with
  | [(_, c)] => (match K.lookup c with
    | some ⟨_, _, .cell (some v), _⟩ => decide (v = .ref (He.ga K x))
    | _ => false)
  | _ => false
def ErrD.ok (K : PySem.W.Frag) (d : ErrD) : Bool := match iniF K d.x with
  | some fd => iniD K d.one fd.defaults && (iniC K d.qual fd.code && iniL K d.x fd.closure)
  | none => false
structure IniHas (prog : Program) (K : PySem.W.Frag) (d : ErrD) (cc : Addr) (dV : Value) : Prop where
  fn : ∃ (oc : Value) (od : Option Addr) (kV doc pm : Value) (an : Option Addr) (cda : Addr) (ct : Value) (osl : Array (Option Value)),
    K.lookup (iniA K d.x) = some ⟨oc, od, .func (PySem.W.ksFn "__init__" d.qual d.params d.body d.scope dV kV doc pm an (.ref cda) ct cc), osl⟩ ∧ PySem.W.codeIn K (.ref cda) d.qual = true ∧
    ∃ (ccl : Value) (cdd : Option Addr) (vs : Array Value) (ccs : Array (Option Value)) (file : Str) (tf : Tok), K.lookup cda = some ⟨ccl, cdd, .fields vs, ccs⟩ ∧ vs[2]? = some (.str file tf) ∧ ((prog.main.file : Str) == file) = true
  cell : ∃ (cl : Value) (cld : Option Addr) (csl : Array (Option Value)), K.lookup cc = some ⟨cl, cld, .cell (some (.ref (He.ga K d.x))), csl⟩
  dfl : iniD K d.one dV = true
theorem iniC_ok {K : PySem.W.Frag} {qual : Str} {v : Value} (h : iniC K qual v = true) : ∃ c, v = .ref c ∧ PySem.W.codeIn K (.ref c) qual = true ∧ ∃ (ccl : Value) (cdd : Option Addr) (vs : Array Value) (ccs : Array (Option Value)) (tf : Tok), K.lookup c = some ⟨ccl, cdd, .fields vs, ccs⟩ ∧ vs[2]? = some (.str "/claim/cut.py" tf) := by
  cases v with
  | ref c =>
    obtain ⟨h1, h2⟩ := He.ba (show (_ && _) = true from h)
    refine ⟨c, rfl, h1, ?_⟩
    cases e : K.lookup c with
    | none =>
      rw [e] at h2
      cases h2
    | some o =>
      rw [e] at h2
      obtain ⟨oc, od, dt, sl⟩ := o
      cases dt with
      | fields vs =>
        replace h2 : iniS (vs[2]?) = true := h2
        cases e2 : vs[2]? with
        | none =>
          rw [e2] at h2
          cases h2
        | some u =>
          rw [e2] at h2
          cases u with
          | str f tf =>
            have e3 : f = ("/claim/cut.py" : Str) := of_decide_eq_true h2
            subst e3
            exact ⟨_, _, _, _, _, rfl, e2⟩
          | _ => cases h2
      | _ => cases h2
  | _ => cases h
theorem iniL_ok {K : PySem.W.Frag} {x : Str} {l : List (Str × Addr)} (h : iniL K x l = true) (hl : l.map (·.1) = [("__class__" : Str)]) : ∃ c, l = [(("__class__" : Str), c)] ∧ ∃ (cl : Value) (cld : Option Addr) (csl : Array (Option Value)), K.lookup c = some ⟨cl, cld, .cell (some (.ref (He.ga K x))), csl⟩ := by
  match l, hl, h with
  | [(n, c)], hl, h =>
    cases hl
    refine ⟨c, rfl, ?_⟩
    replace h : (match K.lookup c with
      | some ⟨_, _, .cell (some v), _⟩ => decide (v = .ref (He.ga K x))
      | _ => false) = true := h
    cases e : K.lookup c with
    | none =>
      rw [e] at h
      cases h
    | some o =>
      rw [e] at h
      obtain ⟨oc, od, dt, sl⟩ := o
      cases dt with
      | cell v =>
        cases v with
        | none => cases h
        | some v =>
          have e3 : v = .ref (He.ga K x) := of_decide_eq_true h
          subst e3
          exact ⟨_, _, _, rfl⟩
      | _ => cases h
theorem errD_ok {prog : Program} {K : PySem.W.Frag} {d : ErrD} (hf : (prog.main.file : Str) = "/claim/cut.py") (e : iniW K d.x = d.val) (c : d.ok K = true) : ∃ cc dV, IniHas prog K d cc dV := by
  unfold iniW at e
  unfold ErrD.ok at c
  cases q : iniF K d.x with
  | none =>
    rw [q] at c
    cases c
  | some fd =>
    rw [q] at c e
    obtain ⟨c1, c2⟩ := He.ba c
    obtain ⟨c3, c4⟩ := He.ba c2
    have lk : ∃ oc od sl, K.lookup (iniA K d.x) = some ⟨oc, od, .func fd, sl⟩ := by
      unfold iniF at q
      cases e1 : K.lookup (iniA K d.x) with
      | none =>
        rw [e1] at q
        cases q
      | some o =>
        rw [e1] at q
        obtain ⟨oc, od, dt, sl⟩ := o
        cases dt with
        | func fd2 =>
          cases q
          exact ⟨_, _, _, rfl⟩
        | _ => cases q
    obtain ⟨n1, n2, n3, n4, n5, n6, n7, n8, n9, n10, n11, n12, n13, n14, n15⟩ := fd
    have e2 : (some (n1, n2, n3, n4, n5, n6, n7.map (·.1), n15) : IniV) = (some (("__init__" : Str), d.qual, d.params, FuncBody.stmts d.body, d.scope, mainGlobals, [("__class__" : Str)], builtinsNs) : IniV) := e
    simp only [Option.some.injEq, Prod.mk.injEq] at e2
    obtain ⟨h1, h2, h3, h4, h5, h6, h7, h8⟩ := e2
    subst h1 h2 h3 h4 h5 h6 h8
    obtain ⟨cda, ec, k1, ccl, cdd, vs, ccs, tf, k2, k3⟩ := iniC_ok c3
    obtain ⟨cc, el, kl⟩ := iniL_ok c4 h7
    replace ec : n13 = .ref cda := ec
    replace el : n7 = [(("__class__" : Str), cc)] := el
    subst ec el
    obtain ⟨oc, od, sl, lk⟩ := lk
    exact ⟨cc, n8, ⟨oc, od, n9, n10, n11, n12, cda, n14, sl, lk, k1, ccl, cdd, vs, ccs, _, tf, k2, k3, by rw [hf]; exact beq_self_eq_true _⟩, kl, c1⟩
theorem iniD_one {K : PySem.W.Frag} {v : Value} (h : iniD K true v = true) : ∃ T, v = .ref T ∧ ∃ (to : Value) (td : Option Addr) (its : Array Value) (tn : Nat) (ts : Array (Option Value)), K.lookup T = some ⟨to, td, .seq its tn, ts⟩ ∧ its.size = 1 := by
  cases v with
  | ref T =>
    refine ⟨T, rfl, ?_⟩
    replace h : (match K.lookup T with
      | some ⟨_, _, .seq its _, _⟩ => decide (its.size = 1)
      | _ => false) = true := h
    cases e : K.lookup T with
    | none =>
      rw [e] at h
      cases h
    | some o =>
      rw [e] at h
      obtain ⟨oc, od, dt, sl⟩ := o
      cases dt with
      | seq its n => exact ⟨_, _, _, _, _, rfl, of_decide_eq_true h⟩
      | _ => cases h
  | _ => cases h
theorem many_ini {P : Program} {w : World} {K : PySem.W.Frag} {mg : Str → Option Value} {C fI cc : Addr} {dV : Value} (hd : iniD K false dV = true) (EC : PySem.ErrX.ErrC K mg "TooMany" C) (IC : PySem.ErrX.IniC P K mg C fI cc "TooMany.__init__" "many" s_TooMany___init__ dV) : PySem.ErrX.IniOk P w K mg C fI "many" := by
  have hd2 : dV = .none := of_decide_eq_true hd
  subst hd2
  refine ⟨IC.iC, IC.tC, fun A R s x t0 v MO hx hnx hroom fv hq => ?_⟩
  refine PySem.ErrX.err_init EC IC ⟨by decide +kernel, by decide +kernel, by decide +kernel, by decide +kernel, by decide +kernel⟩ rfl rfl ?_ ?_ rfl rfl MO hx hnx hroom fv ?_ hq
  · intro e he
    simp only [List.mem_cons, List.not_mem_nil, or_false] at he
    rcases he with rfl | rfl | rfl
    · exact .c (by decide)
    · exact .f
    · exact .c (by decide)
  · decide
  · intro kV doc pm an cda ct
    exact .of_eq rfl
end E1

namespace E1
open PySem PySem.Spec PyProof.Rows L2

theorem Vals.rev : ∀ {xs : List V} {us : List Value}, Vals xs us → Vals xs.reverse us.reverse
  | _, _, .nil => .nil
  | _, _, .cons r t => by
    rw [List.reverse_cons, List.reverse_cons]
    exact Vals.append (Vals.rev t) (.cons r .nil)
section
variable {P : Program} {w : World} {K : PySem.W.Frag} {mg : Str → Option Value} {base : Heap} {x : Str} {st : Stmt} {f : Addr} {fd : FuncData} {ps ks : List Str} {k n : Nat} {sp : Sp}
/-- a def without defaults: its arguments by keywords alone or behind others -/
theorem Fun.kbn {qual : Str} (F : Fun K x qual st f fd) {g : List Value → List Value → List Value} {gV : List V → List V → List V} (hrel : ∀ {vs : List V} {us : List Value} {zs : List V} {ws : List Value}, Vals vs us → Vals zs ws → Vals (gV vs zs) (g us ws))
    (h : ∀ (kV doc pm : Value) (an : Option Addr) (cdv ct : Value) (us ws : List Value), us.length = n → ws.length = ks.length → bindArgs (PySem.W.fnOf x qual (defArgs st) (defBody st) (defScope st) .none kV doc pm an cdv ct) ⟨us, ks.zip ws⟩ = pure (ps.zip (g us ws))) : KBn K fd ps n ks g gV := by
  rcases F.ex with ⟨_, _, v1, v2, v3, v4, v5, v6, _, same, _, _⟩
  subst same
  exact ⟨fun s us ws _ l1 l2 => .of_eq (h v1 v2 v3 v4 v5 v6 us ws l1 l2), hrel⟩
/-- a def with defaults, all arguments given -/
theorem FunD.kbn {qual : Str} {params : Arguments} {body : List Stmt} {scope : Scope} {dvs : List V} {kws : List (Str × V)} (F : FunD K x qual params body scope dvs kws f fd) (hd : dvs ≠ []) {g : List Value → List Value → List Value} {gV : List V → List V → List V} (hrel : ∀ {vs : List V} {us : List Value} {zs : List V} {ws : List Value}, Vals vs us → Vals zs ws → Vals (gV vs zs) (g us ws))
    (h : ∀ (T : Addr) (kV doc pm : Value) (an : Option Addr) (cdv ct : Value) (us ws its : List Value), us.length = n → ws.length = ks.length → its.length = dvs.length → ∃ k, bindArgs (PySem.W.fnOf x qual params body scope (.ref T) kV doc pm an cdv ct) ⟨us, ks.zip ws⟩ = seqItems? (.ref T) >>= k ∧ k (some its.toArray) = pure (ps.zip (g us ws))) : KBn K fd ps n ks g gV := by
  rcases F.ex with ⟨_, _, _, v1, v2, v3, v4, v5, v6, _, same, _, _, bare | given, _⟩
  · exact absurd bare.1 hd
  · rcases given with ⟨_, T, _, its, _, dv, at_, it, rel⟩
    subst same dv
    refine ⟨fun s us ws inn l1 l2 => BindsTo.of_looks fun M => ?_, hrel⟩
    rcases h T v1 v2 v3 v4 v5 v6 us ws its l1 l2 rel.length.symm with ⟨go, b1, b2⟩
    rw [b1]
    exact looks_items inn at_ it (.of_pure b2)
end

theorem fun_of {K : PySem.W.Frag} {x qual : Str} {st : Stmt} {f : Addr} {fd : FuncData} (F : FunD K x qual (defArgs st) (defBody st) (defScope st) [] [] f fd) : Fun K x qual st f fd := by
  obtain ⟨oc, od, dV, kV, doc, pm, an, cdv, ct, osl, e, lk, hcd, hd, _⟩ := F.ex
  rcases hd with ⟨_, rfl⟩ | ⟨n, _⟩
  · exact ⟨⟨oc, od, kV, doc, pm, an, cdv, ct, osl, e, lk, hcd⟩, F.kp⟩
  · exact absurd rfl n
theorem ex_at {l : List Bool} (h : (l.all id) = true) {i : Nat} {b : Bool} (e : l[i]? = some b) : b = true := List.all_eq_true.mp h b (List.mem_of_getElem? e)
theorem val_int {K : PySem.W.Frag} {a : Addr} {kvs : List (Str × He.Dv)} (h : He.valsB K a kvs = true) {i : Nat} {k : Str} {v : Int} (e : kvs[i]? = some (k, .int v)) : ∃ t, PySem.W.nsIn K a k = some (some (.int v t)) := by
  obtain ⟨u, e1, r⟩ := He.valsB_ok h (List.mem_of_getElem? e)
  obtain ⟨t, rfl⟩ := r
  exact ⟨t, e1⟩
theorem funC_of {K : PySem.W.Frag} {x : Str} {st : Stmt} {p : He.Defn} {fd : FuncData} (F : FunD K x x (defArgs st) (defBody st) (defScope st) [] [] (He.fAd K p) fd) : FunC K x st (He.fAd K p) fd (He.cT K p).1 := by
  obtain ⟨oc, od, dV, kV, doc, pm, an, cdv, ct, osl, e, lk, hcd, hd, _⟩ := F.ex
  obtain ⟨c, rfl⟩ := He.codeIn_ref hcd
  rcases hd with ⟨_, rfl⟩ | ⟨n, _⟩
  · have e2 : (He.cT K p).1 = c := He.codeOf_eq lk (by rw [e])
    rw [e2]
    exact ⟨oc, od, kV, doc, pm, an, ct, osl, e, lk, hcd⟩
  · exact absurd rfl n
theorem fun_ofC {K : PySem.W.Frag} {x : Str} {st : Stmt} {f c : Addr} {fd : FuncData} (F : FunC K x st f fd c) (k : PySem.W.keepIn K (.ref f) = true) : Fun K x x st f fd := by
  obtain ⟨oc, od, kV, doc, pm, an, ct, osl, e, lk, hcd⟩ := F.ex
  exact ⟨⟨oc, od, kV, doc, pm, an, _, ct, osl, e, lk, hcd⟩, k⟩
/-- the head's facts, of these addresses; tables left out -/
abbrev AlY : Type := He.AlT × Bool × List IniV
def obsY (as : List Addr) (fa : List He.Fa) (fn : List He.DefD) (ts : List He.Tab) (tf : List He.Defn) (ex : PySem.W.Frag → Bool) (er : List ErrD) (g : Addr → Option Obj) : AlY := (He.obsT fa fn ts (He.frT g as), ex (He.frT g as) && He.tabsB g tf (He.frT g as), er.map fun d => iniW (He.frT g as) d.x)
structure SaysY (fa : List He.Fa) (fn : List He.DefD) (ts : List He.Tab) (tf : List He.Defn) (ex : PySem.W.Frag → Bool) (er : List ErrD) (w : World) (h : Heap) (K : PySem.W.Frag) : Prop where
  t : He.SaysT fa fn ts w K
  more : ex K = true
  ini : (er.map fun d => iniW K d.x) = er.map ErrD.val
  hd : ∀ p ∈ tf, PySem.W.codeHdIn K (He.cT K p).1 (He.cT K p).2 = true
  out : ∀ p ∈ tf, K.lookup (He.cT K p).2 = none
  empty : ∀ p ∈ tf, h.get? (He.cT K p).2 = some { cls := .none, data := .fields #[] }
theorem saysY_of {as : List Addr} {fa : List He.Fa} {fn : List He.DefD} {ts : List He.Tab} {tf : List He.Defn} {ex : PySem.W.Frag → Bool} {er : List ErrD} {w : World} {h : Heap} (e : obsY as fa fn ts tf ex er h.get? = (He.valT fn ts w, true, er.map ErrD.val)) : SaysY fa fn ts tf ex er w h (He.frT h.get? as) := by
  have e1 : He.obsT fa fn ts (He.frT h.get? as) = He.valT fn ts w := congrArg (fun z : AlY => z.1) e
  have e2 : (ex (He.frT h.get? as) && He.tabsB h.get? tf (He.frT h.get? as)) = true := congrArg (fun z : AlY => z.2.1) e
  have e3 : (er.map fun d => iniW (He.frT h.get? as) d.x) = er.map ErrD.val := congrArg (fun z : AlY => z.2.2) e
  obtain ⟨h1, h2⟩ := He.ba e2
  have key : ∀ p ∈ tf, PySem.W.codeHdIn (He.frT h.get? as) (He.cT (He.frT h.get? as) p).1 (He.cT (He.frT h.get? as) p).2 = true ∧ ∃ o, h.get? (He.cT (He.frT h.get? as) p).2 = some o ∧ He.emptyTab o = true := fun p hp => by
    obtain ⟨h3, h4⟩ := He.ba (List.all_eq_true.mp h2 p hp)
    refine ⟨h3, ?_⟩
    cases q : h.get? (He.cT (He.frT h.get? as) p).2 with
    | none =>
      rw [q] at h4
      cases h4
    | some o =>
      rw [q] at h4
      exact ⟨o, rfl, h4⟩
  exact ⟨e1, h1, e3, fun p hp => (key p hp).1, fun p hp => by
    obtain ⟨_, o, q, z⟩ := key p hp
    exact He.frT_none q z, fun p hp => by
    obtain ⟨_, o, q, z⟩ := key p hp
    rw [q, He.emptyTab_eq z]⟩
def hookY (as : List Addr) (fa : List He.Fa) (fn : List He.DefD) (ts : List He.Tab) (tf : List He.Defn) (ex : PySem.W.Frag → Bool) (er : List ErrD) : PySem.W.Hook where
  α := AlY
  obs := fun s => obsY as fa fn ts tf ex er s.heap.get?
  val := fun w => (He.valT fn ts w, true, er.map ErrD.val)
  says := fun w h => ∃ K : PySem.W.Frag, K.In h ∧ SaysY fa fn ts tf ex er w h K
  of := fun _ _ e => ⟨_, He.frT_in, saysY_of e⟩
  keeps := fun _ _ _ ⟨K, hK, c⟩ k => ⟨K, PySem.W.Frag.In.keeps hK k, ⟨c.t, c.more, c.ini, c.hd, c.out, fun p hp => k _ _ (c.empty p hp)⟩⟩
theorem obsY_eq {as : List Addr} {fa : List He.Fa} {fn : List He.DefD} {ts : List He.Tab} {tf : List He.Defn} {ex : PySem.W.Frag → Bool} {er : List ErrD} {g : Addr → Option Obj} {s : Shared} (h : ∀ a, g a = s.heap.get? a) : obsY as fa fn ts tf ex er g = (hookY as fa fn ts tf ex er).obs s := by
  have e : g = s.heap.get? := funext h
  rw [e]
  rfl
theorem ini_at {K : PySem.W.Frag} {er : List ErrD} (h : (er.map fun d => iniW K d.x) = er.map ErrD.val) {i : Nat} {d : ErrD} (e : er[i]? = some d) : iniW K d.x = d.val := by
  have h2 : (er.map fun d => iniW K d.x)[i]? = (er.map ErrD.val)[i]? := by rw [h]
  rw [List.getElem?_map, List.getElem?_map, e] at h2
  exact Option.some.inj h2
/-- empty tables of lambdas, one by one -/
theorem tabs_nil {H : Hp} : LamX.Tabs [] H := fun p hp => nomatch hp
theorem tabs_one {H : Hp} {P : Addr} {q : Str} {r : List (Addr × Str)} (h : H P = some (.tbl #[])) (t : LamX.Tabs r H) : LamX.Tabs ((P, q) :: r) H := fun p hp => by
  rcases List.mem_cons.mp hp with rfl | hp
  · exact ⟨_, h, (by first | exact trivial | decide | exact .nil), fun _ _ z => by cases z⟩
  · exact t p hp
def dd_is_whole : He.DefD := ⟨("is_whole", none), "is_whole", "is_whole", defArgs s_is_whole, defBody s_is_whole, defScope s_is_whole, [], []⟩
def dd_downward : He.DefD := ⟨("downward", none), "downward", "downward", defArgs s_downward, defBody s_downward, defScope s_downward, [], []⟩
def dd_upward : He.DefD := ⟨("upward", none), "upward", "upward", defArgs s_upward, defBody s_upward, defScope s_upward, [], []⟩
def dd_inward : He.DefD := ⟨("inward", none), "inward", "inward", defArgs s_inward, defBody s_inward, defScope s_inward, [], []⟩
def dd_outward : He.DefD := ⟨("outward", none), "outward", "outward", defArgs s_outward, defBody s_outward, defScope s_outward, [], []⟩
def dd_nearest_greater : He.DefD := ⟨("nearest_greater", none), "nearest_greater", "nearest_greater", defArgs s_nearest_greater, defBody s_nearest_greater, defScope s_nearest_greater, [], []⟩
def dd_nearest_even : He.DefD := ⟨("nearest_even", none), "nearest_even", "nearest_even", defArgs s_nearest_even, defBody s_nearest_even, defScope s_nearest_even, [], []⟩
def dd_nearest_far : He.DefD := ⟨("nearest_far", none), "nearest_far", "nearest_far", defArgs s_nearest_far, defBody s_nearest_far, defScope s_nearest_far, [], []⟩
def dd_is_manner : He.DefD := ⟨("is_manner", none), "is_manner", "is_manner", defArgs s_is_manner, defBody s_is_manner, defScope s_is_manner, [], []⟩
def dd_rounded : He.DefD := ⟨("rounded", none), "rounded", "rounded", defArgs s_rounded, defBody s_rounded, defScope s_rounded, [.str "half"], []⟩
def dd_is_width : He.DefD := ⟨("is_width", none), "is_width", "is_width", defArgs s_is_width, defBody s_is_width, defScope s_is_width, [], []⟩
def dd_is_point : He.DefD := ⟨("is_point", none), "is_point", "is_point", defArgs s_is_point, defBody s_is_point, defScope s_is_point, [], []⟩
def dd_is_ends : He.DefD := ⟨("is_ends", none), "is_ends", "is_ends", defArgs s_is_ends, defBody s_is_ends, defScope s_is_ends, [], []⟩
def dd_is_place : He.DefD := ⟨("is_place", none), "is_place", "is_place", defArgs s_is_place, defBody s_is_place, defScope s_is_place, [], []⟩
def dd_is_factor : He.DefD := ⟨("is_factor", none), "is_factor", "is_factor", defArgs s_is_factor, defBody s_is_factor, defScope s_is_factor, [], []⟩
def dd_in_point : He.DefD := ⟨("in_point", none), "in_point", "in_point", defArgs s_in_point, defBody s_in_point, defScope s_in_point, [], []⟩
def dd_old_point : He.DefD := ⟨("old_point", none), "old_point", "old_point", defArgs s_old_point, defBody s_old_point, defScope s_old_point, [], []⟩
def dd_times_point : He.DefD := ⟨("times_point", none), "times_point", "times_point", defArgs s_times_point, defBody s_times_point, defScope s_times_point, [], []⟩
def dd_sum_point : He.DefD := ⟨("sum_point", none), "sum_point", "sum_point", defArgs s_sum_point, defBody s_sum_point, defScope s_sum_point, [], []⟩
def dd_move_point : He.DefD := ⟨("move_point", none), "move_point", "move_point", defArgs s_move_point, defBody s_move_point, defScope s_move_point, [], []⟩
def dd_keep_point : He.DefD := ⟨("keep_point", none), "keep_point", "keep_point", defArgs s_keep_point, defBody s_keep_point, defScope s_keep_point, [], []⟩
def dd_is_written_as_row : He.DefD := ⟨("is_written_as_row", none), "is_written_as_row", "is_written_as_row", defArgs s_is_written_as_row, defBody s_is_written_as_row, defScope s_is_written_as_row, [], []⟩
def dd_row_point : He.DefD := ⟨("row_point", none), "row_point", "row_point", defArgs s_row_point, defBody s_row_point, defScope s_row_point, [], []⟩
def dd_check_length : He.DefD := ⟨("check_length", none), "check_length", "check_length", defArgs s_check_length, defBody s_check_length, defScope s_check_length, [], []⟩
def dd_check_forms : He.DefD := ⟨("check_forms", none), "check_forms", "check_forms", defArgs s_check_forms, defBody s_check_forms, defScope s_check_forms, [], []⟩
def dd_is_hold : He.DefD := ⟨("is_hold", none), "is_hold", "is_hold", defArgs s_is_hold, defBody s_is_hold, defScope s_is_hold, [], []⟩
def dd_check_holds : He.DefD := ⟨("check_holds", none), "check_holds", "check_holds", defArgs s_check_holds, defBody s_check_holds, defScope s_check_holds, [], []⟩
def dd_checked_points : He.DefD := ⟨("checked_points", none), "checked_points", "checked_points", defArgs s_checked_points, defBody s_checked_points, defScope s_checked_points, [], []⟩
def dd_check_links : He.DefD := ⟨("check_links", none), "check_links", "check_links", defArgs s_check_links, defBody s_check_links, defScope s_check_links, [], []⟩
def dd_enter_form : He.DefD := ⟨("enter_form", none), "enter_form", "enter_form", defArgs s_enter_form, defBody s_enter_form, defScope s_enter_form, [], []⟩
def dd_swept : He.DefD := ⟨("swept", none), "swept", "swept", defArgs s_swept, defBody s_swept, defScope s_swept, [], []⟩
def dd_check_ends : He.DefD := ⟨("check_ends", none), "check_ends", "check_ends", defArgs s_check_ends, defBody s_check_ends, defScope s_check_ends, [], []⟩
def dd_has_in_it : He.DefD := ⟨("has_in_it", none), "has_in_it", "has_in_it", defArgs s_has_in_it, defBody s_has_in_it, defScope s_has_in_it, [], []⟩
def dd_times_stretch : He.DefD := ⟨("times_stretch", none), "times_stretch", "times_stretch", defArgs s_times_stretch, defBody s_times_stretch, defScope s_times_stretch, [], []⟩
def dd_sum_stretch : He.DefD := ⟨("sum_stretch", none), "sum_stretch", "sum_stretch", defArgs s_sum_stretch, defBody s_sum_stretch, defScope s_sum_stretch, [], []⟩
def dd_ends_kept : He.DefD := ⟨("ends_kept", none), "ends_kept", "ends_kept", defArgs s_ends_kept, defBody s_ends_kept, defScope s_ends_kept, [], []⟩
def dd_is_over : He.DefD := ⟨("is_over", none), "is_over", "is_over", defArgs s_is_over, defBody s_is_over, defScope s_is_over, [], []⟩
def dd_all_words : He.DefD := ⟨("all_words", none), "all_words", "all_words", defArgs s_all_words, defBody s_all_words, defScope s_all_words, [], []⟩
def dd_keep_stretch : He.DefD := ⟨("keep_stretch", none), "keep_stretch", "keep_stretch", defArgs s_keep_stretch, defBody s_keep_stretch, defScope s_keep_stretch, [], []⟩
def dd_stretch_of_row : He.DefD := ⟨("stretch_of_row", none), "stretch_of_row", "stretch_of_row", defArgs s_stretch_of_row, defBody s_stretch_of_row, defScope s_stretch_of_row, [], []⟩
def dd_hull : He.DefD := ⟨("hull", none), "hull", "hull", defArgs s_hull, defBody s_hull, defScope s_hull, [], []⟩
def dd_widened : He.DefD := ⟨("widened", none), "widened", "widened", defArgs s_widened, defBody s_widened, defScope s_widened, [], []⟩
def dd_box : He.DefD := ⟨("box", none), "box", "box", defArgs s_box, defBody s_box, defScope s_box, [.int 20], []⟩
def dd_is_hold_stretch : He.DefD := ⟨("is_hold_stretch", none), "is_hold_stretch", "is_hold_stretch", defArgs s_is_hold_stretch, defBody s_is_hold_stretch, defScope s_is_hold_stretch, [], []⟩
def dd_are_hold_stretches : He.DefD := ⟨("are_hold_stretches", none), "are_hold_stretches", "are_hold_stretches", defArgs s_are_hold_stretches, defBody s_are_hold_stretches, defScope s_are_hold_stretches, [], []⟩
def dd_is_box : He.DefD := ⟨("is_box", none), "is_box", "is_box", defArgs s_is_box, defBody s_is_box, defScope s_is_box, [], []⟩
def dd_may_over : He.DefD := ⟨("may_over", none), "may_over", "may_over", defArgs s_may_over, defBody s_may_over, defScope s_may_over, [], []⟩
def dd__law_cell_at : He.DefD := ⟨("_law_cell_at", none), "_law_cell_at", "_law_cell_at", defArgs s__law_cell_at, defBody s__law_cell_at, defScope s__law_cell_at, [], []⟩
def dd__law_well : He.DefD := ⟨("_law_well", none), "_law_well", "_law_well", defArgs s__law_well, defBody s__law_well, defScope s__law_well, [], []⟩
def dd__law_draw : He.DefD := ⟨("_law_draw", none), "_law_draw", "_law_draw", defArgs s__law_draw, defBody s__law_draw, defScope s__law_draw, [], []⟩
def dd__law_form : He.DefD := ⟨("_law_form", none), "_law_form", "_law_form", defArgs s__law_form, defBody s__law_form, defScope s__law_form, [], []⟩
def dd__law_word : He.DefD := ⟨("_law_word", none), "_law_word", "_law_word", defArgs s__law_word, defBody s__law_word, defScope s__law_word, [], []⟩
def dd__law_row : He.DefD := ⟨("_law_row", none), "_law_row", "_law_row", defArgs s__law_row, defBody s__law_row, defScope s__law_row, [], []⟩
def dd__law_begin : He.DefD := ⟨("_law_begin", none), "_law_begin", "_law_begin", defArgs s__law_begin, defBody s__law_begin, defScope s__law_begin, [], []⟩
def dd__law_mixed : He.DefD := ⟨("_law_mixed", none), "_law_mixed", "_law_mixed", defArgs s__law_mixed, defBody s__law_mixed, defScope s__law_mixed, [], []⟩
def dd__law_link : He.DefD := ⟨("_law_link", none), "_law_link", "_law_link", defArgs s__law_link, defBody s__law_link, defScope s__law_link, [], []⟩
def dd__law_net : He.DefD := ⟨("_law_net", none), "_law_net", "_law_net", defArgs s__law_net, defBody s__law_net, defScope s__law_net, [], []⟩
def dd__law_made : He.DefD := ⟨("_law_made", none), "_law_made", "_law_made", defArgs s__law_made, defBody s__law_made, defScope s__law_made, [], []⟩
def dd__law_rounded : He.DefD := ⟨("_law_rounded", none), "_law_rounded", "_law_rounded", defArgs s__law_rounded, defBody s__law_rounded, defScope s__law_rounded, [], []⟩
def dd__law_kept : He.DefD := ⟨("_law_kept", none), "_law_kept", "_law_kept", defArgs s__law_kept, defBody s__law_kept, defScope s__law_kept, [], []⟩
def dd__law_points : He.DefD := ⟨("_law_points", none), "_law_points", "_law_points", defArgs s__law_points, defBody s__law_points, defScope s__law_points, [], []⟩
def dd__law_sum : He.DefD := ⟨("_law_sum", none), "_law_sum", "_law_sum", defArgs s__law_sum, defBody s__law_sum, defScope s__law_sum, [], []⟩
def dd__law_keep : He.DefD := ⟨("_law_keep", none), "_law_keep", "_law_keep", defArgs s__law_keep, defBody s__law_keep, defScope s__law_keep, [], []⟩
def dd__law_stretches : He.DefD := ⟨("_law_stretches", none), "_law_stretches", "_law_stretches", defArgs s__law_stretches, defBody s__law_stretches, defScope s__law_stretches, [], []⟩
def dd__law_whole : He.DefD := ⟨("_law_whole", none), "_law_whole", "_law_whole", defArgs s__law_whole, defBody s__law_whole, defScope s__law_whole, [], []⟩
def dd__law_is_box : He.DefD := ⟨("_law_is_box", none), "_law_is_box", "_law_is_box", defArgs s__law_is_box, defBody s__law_is_box, defScope s__law_is_box, [], []⟩
def dd__law_may_over : He.DefD := ⟨("_law_may_over", none), "_law_may_over", "_law_may_over", defArgs s__law_may_over, defBody s__law_may_over, defScope s__law_may_over, [], []⟩
def dd__law_all : He.DefD := ⟨("_law_all", none), "_law_all", "_law_all", defArgs s__law_all, defBody s__law_all, defScope s__law_all, [], []⟩
def dd__law_forged : He.DefD := ⟨("_law_forged", none), "_law_forged", "_law_forged", defArgs s__law_forged, defBody s__law_forged, defScope s__law_forged, [], []⟩
def dd__law_refused : He.DefD := ⟨("_law_refused", none), "_law_refused", "_law_refused", defArgs s__law_refused, defBody s__law_refused, defScope s__law_refused, [], []⟩
def dd__law_bad_words : He.DefD := ⟨("_law_bad_words", none), "_law_bad_words", "_law_bad_words", defArgs s__law_bad_words, defBody s__law_bad_words, defScope s__law_bad_words, [], []⟩
def dd__law_start_box : He.DefD := ⟨("_law_start_box", none), "_law_start_box", "_law_start_box", defArgs s__law_start_box, defBody s__law_start_box, defScope s__law_start_box, [], []⟩
def dd_law : He.DefD := ⟨("law", none), "law", "law", defArgs s_law, defBody s_law, defScope s_law, [], []⟩
def dd_Form_least : He.DefD := ⟨("Form", some "least"), "least", "Form.least", defArgs s_Form_least, defBody s_Form_least, defScope s_Form_least, [], []⟩
def dd_Form_greatest : He.DefD := ⟨("Form", some "greatest"), "greatest", "Form.greatest", defArgs s_Form_greatest, defBody s_Form_greatest, defScope s_Form_greatest, [], []⟩
def dd_Form_has : He.DefD := ⟨("Form", some "has"), "has", "Form.has", defArgs s_Form_has, defBody s_Form_has, defScope s_Form_has, [], []⟩
def dd_Form_word_for : He.DefD := ⟨("Form", some "word_for"), "word_for", "Form.word_for", defArgs s_Form_word_for, defBody s_Form_word_for, defScope s_Form_word_for, [], []⟩
def dd_Form_ended : He.DefD := ⟨("Form", some "ended"), "ended", "Form.ended", defArgs s_Form_ended, defBody s_Form_ended, defScope s_Form_ended, [], []⟩
def dd_Form_kept_at : He.DefD := ⟨("Form", some "kept_at"), "kept_at", "Form.kept_at", defArgs s_Form_kept_at, defBody s_Form_kept_at, defScope s_Form_kept_at, [], []⟩
def dd_Net_forms : He.DefD := ⟨("Net", some "forms"), "forms", "Net.forms", defArgs s_Net_forms, defBody s_Net_forms, defScope s_Net_forms, [], []⟩
def dd_Net_rows : He.DefD := ⟨("Net", some "rows"), "rows", "Net.rows", defArgs s_Net_rows, defBody s_Net_rows, defScope s_Net_rows, [], []⟩
def dd_Net_holds : He.DefD := ⟨("Net", some "holds"), "holds", "Net.holds", defArgs s_Net_holds, defBody s_Net_holds, defScope s_Net_holds, [], []⟩
def dd_Net_points : He.DefD := ⟨("Net", some "points"), "points", "Net.points", defArgs s_Net_points, defBody s_Net_points, defScope s_Net_points, [], []⟩
def dd_Net_enters : He.DefD := ⟨("Net", some "enters"), "enters", "Net.enters", defArgs s_Net_enters, defBody s_Net_enters, defScope s_Net_enters, [], []⟩
def dd_Net_start : He.DefD := ⟨("Net", some "start"), "start", "Net.start", defArgs s_Net_start, defBody s_Net_start, defScope s_Net_start, [], []⟩
def dd_Net_keeps : He.DefD := ⟨("Net", some "keeps"), "keeps", "Net.keeps", defArgs s_Net_keeps, defBody s_Net_keeps, defScope s_Net_keeps, [], []⟩
def dd_Net___init__ : He.DefD := ⟨("Net", some "__init__"), "__init__", "Net.__init__", defArgs s_Net___init__, defBody s_Net___init__, defScope s_Net___init__, [], []⟩
def ed_CM : ErrD := ⟨"TooMany", "TooMany.__init__", defArgs s_TooMany___init__, defBody s_TooMany___init__, defScope s_TooMany___init__, false⟩
def dd_Form___init__ : He.DefD := ⟨("Form", some "__init__"), "__init__", "Form.__init__", defArgs s_Form___init__, defBody s_Form___init__, defScope s_Form___init__, [.non, .int 0, .str "half", .str "wrap"], []⟩
def FN_0 : List He.DefD := [dd_is_whole, dd_downward, dd_upward, dd_inward, dd_outward, dd_nearest_greater, dd_nearest_even, dd_nearest_far, dd_is_manner, dd_rounded, dd_is_width, dd_is_point, dd_is_ends, dd_is_place, dd_is_factor, dd_in_point, dd_old_point, dd_times_point, dd_sum_point, dd_move_point]
def FN_1 : List He.DefD := [dd_keep_point, dd_is_written_as_row, dd_row_point, dd_check_length, dd_check_forms, dd_is_hold, dd_check_holds, dd_checked_points, dd_check_links, dd_enter_form, dd_swept, dd_check_ends, dd_has_in_it, dd_times_stretch, dd_sum_stretch, dd_ends_kept, dd_is_over, dd_all_words, dd_keep_stretch, dd_stretch_of_row]
def FN_2 : List He.DefD := [dd_hull, dd_widened, dd_box, dd_is_hold_stretch, dd_are_hold_stretches, dd_is_box, dd_may_over, dd__law_cell_at, dd__law_well, dd__law_draw, dd__law_form, dd__law_word, dd__law_row, dd__law_begin, dd__law_mixed, dd__law_link, dd__law_net, dd__law_made, dd__law_rounded, dd__law_kept]
def FN_3 : List He.DefD := [dd__law_points, dd__law_sum, dd__law_keep, dd__law_stretches, dd__law_whole, dd__law_is_box, dd__law_may_over, dd__law_all, dd__law_forged, dd__law_refused, dd__law_bad_words, dd__law_start_box, dd_law, dd_Form_least, dd_Form_greatest, dd_Form_has, dd_Form_word_for, dd_Form_ended, dd_Form_kept_at, dd_Net_forms]
def FN_4 : List He.DefD := [dd_Net_rows, dd_Net_holds, dd_Net_points, dd_Net_enters, dd_Net_start, dd_Net_keeps, dd_Net___init__, dd_Form___init__]
def FN : List He.DefD := FN_0 ++ (FN_1 ++ (FN_2 ++ (FN_3 ++ (FN_4))))
def FA_0 : List He.Fa := [.glo "is_whole", .glo "downward", .glo "upward", .glo "inward", .glo "outward", .glo "nearest_greater", .glo "nearest_even", .glo "nearest_far", .glo "is_manner", .glo "rounded", .glo "is_width", .glo "is_point", .glo "is_ends", .glo "is_place", .glo "is_factor", .glo "in_point", .glo "old_point", .glo "times_point", .glo "sum_point", .glo "move_point"]
def FA_1 : List He.Fa := [.glo "keep_point", .glo "is_written_as_row", .glo "row_point", .glo "check_length", .glo "check_forms", .glo "is_hold", .glo "check_holds", .glo "checked_points", .glo "check_links", .glo "enter_form", .glo "swept", .glo "check_ends", .glo "has_in_it", .glo "times_stretch", .glo "sum_stretch", .glo "ends_kept", .glo "is_over", .glo "all_words", .glo "keep_stretch", .glo "stretch_of_row"]
def FA_2 : List He.Fa := [.glo "hull", .glo "widened", .glo "box", .glo "is_hold_stretch", .glo "are_hold_stretches", .glo "is_box", .glo "may_over", .glo "_law_cell_at", .glo "_law_well", .glo "_law_draw", .glo "_law_form", .glo "_law_word", .glo "_law_row", .glo "_law_begin", .glo "_law_mixed", .glo "_law_link", .glo "_law_net", .glo "_law_made", .glo "_law_rounded", .glo "_law_kept"]
def FA_3 : List He.Fa := [.glo "_law_points", .glo "_law_sum", .glo "_law_keep", .glo "_law_stretches", .glo "_law_whole", .glo "_law_is_box", .glo "_law_may_over", .glo "_law_all", .glo "_law_forged", .glo "_law_refused", .glo "_law_bad_words", .glo "_law_start_box", .glo "law", .glo "Form", .cls "Form", .mkr "Form", .noat "Form" "width", .noat "Form" "point", .noat "Form" "manner", .noat "Form" "ends"]
def FA_4 : List He.Fa := [.glo "Net", .cls "Net", .mkr "Net", .noat "Net" "form_list", .noat "Net" "enters_at", .noat "Net" "row_list", .noat "Net" "hold_list", .noat "Net" "out_at", .noat "Net" "point_list", .meth "Form" "least", .meth "Form" "greatest", .meth "Form" "has", .meth "Form" "word_for", .meth "Form" "ended", .meth "Form" "kept_at", .meth "Net" "forms", .meth "Net" "rows", .meth "Net" "holds", .meth "Net" "points", .meth "Net" "enters"]
def FA_5 : List He.Fa := [.meth "Net" "start", .meth "Net" "keeps", .meth "Net" "__init__", .glo "EchoError", .glo "NoWords", .glo "NoState", .glo "Unfit", .glo "TooMany", .meth "Form" "__init__", .int "LEAST_WIDTH" 2, .int "GREATEST_WIDTH" 64, .int "GREATEST_POINT" 64, .int "MOST_FORMS" 12, .int "MOST_ROWS" 60, .int "MOST_HOLDS" 6, .int "FACTOR_END" 9223372036854775808, .int "GREATEST_SHIFT" 64, .int "GREATEST_ROW_POINT" 200, .int "MOST_ROUNDS" 40, .glo "ENDS"]
def FA_6 : List He.Fa := [.glo "MANNERS", .glo "POINT_RULES", .glo "ROW_LENGTHS", .free "isinstance", .free "int", .free "bool", .free "abs", .free "str", .free "len", .free "max", .free "tuple", .free "list", .free "enumerate", .free "min", .free "zip", .free "all", .free "range", .free "divmod", .free "sorted"]
def FA : List He.Fa := FA_0 ++ (FA_1 ++ (FA_2 ++ (FA_3 ++ (FA_4 ++ (FA_5 ++ (FA_6))))))
def TS_0 : List He.Tab := [(fun K => He.ga K "MANNERS", ["down", "up", "in", "out", "half", "even", "far"]), (fun K => He.ga K "POINT_RULES", ["in", "old", "times", "plus", "less", "move", "keep"]), (fun K => He.ga K "ROW_LENGTHS", ["in", "old", "times", "plus", "less", "move", "keep"])]
def TS : List He.Tab := TS_0
def EXL_0 (K : PySem.W.Frag) : List Bool := [decide (PySem.W.excInitIn K (He.ga K "TooMany") PySem.ErrX.bmA "ArithmeticError.__new__" = true), decide (PySem.W.excOver K (He.ga K "TooMany") PySem.ErrX.bmA = true), decide (PySem.W.findIn K (.ref (He.ga K "TooMany")) "__setattr__" = some (some (.builtin "object.__setattr__"))), decide (PySem.W.findIn K (.ref (He.ga K "TooMany")) "__getattribute__" = some (some (.builtin "BaseException.__getattribute__"))), decide (PySem.W.findIn K (.ref (He.ga K "TooMany")) "__getattr__" = some none), decide (PySem.W.keepIn K (.ref (He.ga K "TooMany")) = true), decide (PySem.W.subIn K (.ref (He.ga K "TooMany")) (.type "BaseException") = some true), decide (PySem.W.typeIn K (.ref (He.ga K "TooMany")) = some (.type "type")), decide (PySem.W.hasDictIn K (He.ga K "TooMany") = true), decide (PySem.W.findIn K (.ref (He.ga K "TooMany")) "__class__" = some (some (.builtin "object.__class__"))), decide (PySem.W.specialIn K (.builtin "object.__class__") "__get__" = some (some (.builtin "getset_descriptor.__get__"))), decide (PySem.W.takesIn K (.builtin "object.__class__") = some true), decide (PySem.W.mroIn K (He.ga K "TooMany") (.type "object") = some true), decide (PySem.W.findIn K (.ref (He.ga K "TooMany")) "__init__" = some (some (.ref (iniA K "TooMany")))), decide (PySem.W.typeIn K (.ref (iniA K "TooMany")) = some (.type "function")), decide (PySem.W.findIn K (.ref (He.ga K "TooMany")) "many" = some none), decide (PySem.W.ks_superIn K (He.ga K "TooMany") (He.ga K "TooMany") "__init__" = some (some (.builtin "ArithmeticError.__init__"))), decide (PySem.W.subIn K (.ref (He.ga K "TooMany")) (.type "ArithmeticError") = some true), decide (PySem.W.mroIn K (He.ga K "TooMany") (.ref (He.ga K "TooMany")) = some true), decide (PySem.W.nsIn K cStatics "thirdparty.any" = some none)]
def EXL_1 (K : PySem.W.Frag) : List Bool := [decide (PySem.W.nsIn K mainGlobals "super" = some none), ed_CM.ok K, decide (PySem.W.exmOne K (.ref (He.ga K "TooMany")) (.ref (He.ga K "TooMany")) = some true), decide (PySem.W.excIn K (He.ga K "NoWords") PySem.ErrX.bmA "ArithmeticError.__new__" = true), decide (PySem.W.keepIn K (.ref (He.ga K "NoWords")) = true), decide (PySem.W.subIn K (.ref (He.ga K "NoWords")) (.type "BaseException") = some true), decide (PySem.W.typeIn K (.ref (He.ga K "NoWords")) = some (.type "type")), decide (PySem.W.findIn K (.ref (He.ga K "NoWords")) "__getattribute__" = some (some (.builtin "BaseException.__getattribute__"))), decide (PySem.W.findIn K (.ref (He.ga K "NoWords")) "__getattr__" = some none), decide (PySem.W.hasDictIn K (He.ga K "NoWords") = true), decide (PySem.W.findIn K (.ref (He.ga K "NoWords")) "__class__" = some (some (.builtin "object.__class__"))), decide (PySem.W.specialIn K (.builtin "object.__class__") "__get__" = some (some (.builtin "getset_descriptor.__get__"))), decide (PySem.W.takesIn K (.builtin "object.__class__") = some true), decide (PySem.W.mroIn K (He.ga K "NoWords") (.type "object") = some true), decide (PySem.W.exmOne K (.ref (He.ga K "NoWords")) (.ref (He.ga K "EchoError")) = some true), decide (PySem.W.kitOne K (.ref (He.ga K "NoWords")) (.ref (He.ga K "NoWords")) = some true), decide (PySem.W.kitOne K (.ref (He.ga K "NoWords")) (.ref (He.ga K "NoState")) = some false), decide (PySem.W.kitOne K (.ref (He.ga K "NoWords")) (.ref (He.ga K "TooMany")) = some false), decide (PySem.W.kitOne K (.ref (He.ga K "NoWords")) (.ref (He.ga K "Unfit")) = some false), decide (PySem.W.excIn K (He.ga K "NoState") PySem.ErrX.bmA "ArithmeticError.__new__" = true)]
def EXL_2 (K : PySem.W.Frag) : List Bool := [decide (PySem.W.keepIn K (.ref (He.ga K "NoState")) = true), decide (PySem.W.subIn K (.ref (He.ga K "NoState")) (.type "BaseException") = some true), decide (PySem.W.typeIn K (.ref (He.ga K "NoState")) = some (.type "type")), decide (PySem.W.findIn K (.ref (He.ga K "NoState")) "__getattribute__" = some (some (.builtin "BaseException.__getattribute__"))), decide (PySem.W.findIn K (.ref (He.ga K "NoState")) "__getattr__" = some none), decide (PySem.W.hasDictIn K (He.ga K "NoState") = true), decide (PySem.W.findIn K (.ref (He.ga K "NoState")) "__class__" = some (some (.builtin "object.__class__"))), decide (PySem.W.specialIn K (.builtin "object.__class__") "__get__" = some (some (.builtin "getset_descriptor.__get__"))), decide (PySem.W.takesIn K (.builtin "object.__class__") = some true), decide (PySem.W.mroIn K (He.ga K "NoState") (.type "object") = some true), decide (PySem.W.exmOne K (.ref (He.ga K "NoState")) (.ref (He.ga K "EchoError")) = some true), decide (PySem.W.kitOne K (.ref (He.ga K "NoState")) (.ref (He.ga K "NoWords")) = some false), decide (PySem.W.kitOne K (.ref (He.ga K "NoState")) (.ref (He.ga K "NoState")) = some true), decide (PySem.W.kitOne K (.ref (He.ga K "NoState")) (.ref (He.ga K "TooMany")) = some false), decide (PySem.W.kitOne K (.ref (He.ga K "NoState")) (.ref (He.ga K "Unfit")) = some false), He.tupB K "ENDS" [.str "wrap", .str "stop"], decide (PySem.W.nsIn K (He.ga K "MANNERS") "down" = some (some (.ref (He.ga K "downward")))), decide (PySem.W.nsIn K (He.ga K "MANNERS") "up" = some (some (.ref (He.ga K "upward")))), decide (PySem.W.nsIn K (He.ga K "MANNERS") "in" = some (some (.ref (He.ga K "inward")))), decide (PySem.W.nsIn K (He.ga K "MANNERS") "out" = some (some (.ref (He.ga K "outward"))))]
def EXL_3 (K : PySem.W.Frag) : List Bool := [decide (PySem.W.nsIn K (He.ga K "MANNERS") "half" = some (some (.ref (He.ga K "nearest_greater")))), decide (PySem.W.nsIn K (He.ga K "MANNERS") "even" = some (some (.ref (He.ga K "nearest_even")))), decide (PySem.W.nsIn K (He.ga K "MANNERS") "far" = some (some (.ref (He.ga K "nearest_far")))), decide (PySem.W.nsIn K (He.ga K "POINT_RULES") "in" = some (some (.ref (He.ga K "in_point")))), decide (PySem.W.nsIn K (He.ga K "POINT_RULES") "old" = some (some (.ref (He.ga K "old_point")))), decide (PySem.W.nsIn K (He.ga K "POINT_RULES") "times" = some (some (.ref (He.ga K "times_point")))), decide (PySem.W.nsIn K (He.ga K "POINT_RULES") "plus" = some (some (.ref (He.ga K "sum_point")))), decide (PySem.W.nsIn K (He.ga K "POINT_RULES") "less" = some (some (.ref (He.ga K "sum_point")))), decide (PySem.W.nsIn K (He.ga K "POINT_RULES") "move" = some (some (.ref (He.ga K "move_point")))), decide (PySem.W.nsIn K (He.ga K "POINT_RULES") "keep" = some (some (.ref (He.ga K "keep_point")))), He.valsB K (He.ga K "ROW_LENGTHS") [("in", .int 1), ("old", .int 2), ("times", .int 4), ("plus", .int 3), ("less", .int 3), ("move", .int 3), ("keep", .int 3)], decide (PySem.W.findIn K (.ref (He.ga K "Form")) "__class__" = some (some (.builtin "object.__class__"))), decide (PySem.W.specialIn K (.builtin "object.__class__") "__get__" = some (some (.builtin "getset_descriptor.__get__"))), decide (PySem.W.takesIn K (.builtin "object.__class__") = some true), decide (PySem.W.mroIn K (He.ga K "Form") (.type "object") = some true), decide (PySem.W.kitOne K (.ref (He.ga K "Form")) (.ref (He.ga K "Form")) = some true), decide (PySem.W.findIn K (.ref (He.ga K "Net")) "__class__" = some (some (.builtin "object.__class__"))), decide (PySem.W.mroIn K (He.ga K "Net") (.type "object") = some true), decide (PySem.W.kitOne K (.ref (He.ga K "Net")) (.ref (He.ga K "Net")) = some true)]
def EXL (K : PySem.W.Frag) : List Bool := EXL_0 K ++ (EXL_1 K ++ (EXL_2 K ++ (EXL_3 K)))
def EXB (K : PySem.W.Frag) : Bool := (EXL K).all id
def ER_0 : List ErrD := [ed_CM]
def ER : List ErrD := ER_0
def TF : List He.Defn := [("law", none)]
end E1

namespace HX
open PySem PySem.W PySem.Calls PyProof.Rows
abbrev RR : OpenRow := OpenLaw.row PySem.Challenge.rw_echobound_k60_whole_boxes_forged
abbrev qv : Program := view RR.prog [110]
def names_0 : List PySem.Str := [("_wall" : PySem.Str), ("__name__" : PySem.Str), ("EchoError" : PySem.Str), ("NoFraction" : PySem.Str), ("NoWords" : PySem.Str), ("NoState" : PySem.Str), ("BadForm" : PySem.Str), ("Unfit" : PySem.Str), ("BadNet" : PySem.Str), ("TooMany" : PySem.Str), ("GREATEST_POWER" : PySem.Str), ("is_whole" : PySem.Str), ("shared_divisor" : PySem.Str), ("lowest" : PySem.Str), ("times" : PySem.Str), ("divided" : PySem.Str), ("two_to" : PySem.Str), ("downward" : PySem.Str), ("upward" : PySem.Str), ("inward" : PySem.Str)]
def names_1 : List PySem.Str := [("outward" : PySem.Str), ("nearest_greater" : PySem.Str), ("nearest_even" : PySem.Str), ("nearest_far" : PySem.Str), ("MANNERS" : PySem.Str), ("is_manner" : PySem.Str), ("rounded" : PySem.Str), ("LEAST_WIDTH" : PySem.Str), ("GREATEST_WIDTH" : PySem.Str), ("GREATEST_POINT" : PySem.Str), ("ENDS" : PySem.Str), ("is_width" : PySem.Str), ("is_point" : PySem.Str), ("is_ends" : PySem.Str), ("Form" : PySem.Str), ("MOST_FORMS" : PySem.Str), ("MOST_ROWS" : PySem.Str), ("MOST_HOLDS" : PySem.Str), ("FACTOR_END" : PySem.Str), ("GREATEST_SHIFT" : PySem.Str)]
def names_2 : List PySem.Str := [("GREATEST_ROW_POINT" : PySem.Str), ("ROW_LENGTHS" : PySem.Str), ("is_place" : PySem.Str), ("is_factor" : PySem.Str), ("in_point" : PySem.Str), ("old_point" : PySem.Str), ("times_point" : PySem.Str), ("sum_point" : PySem.Str), ("move_point" : PySem.Str), ("keep_point" : PySem.Str), ("POINT_RULES" : PySem.Str), ("is_written_as_row" : PySem.Str), ("row_point" : PySem.Str), ("check_length" : PySem.Str), ("check_forms" : PySem.Str), ("is_hold" : PySem.Str), ("check_holds" : PySem.Str), ("checked_points" : PySem.Str), ("check_links" : PySem.Str), ("Net" : PySem.Str)]
def names_3 : List PySem.Str := [("enter_form" : PySem.Str), ("swept" : PySem.Str), ("MOST_ROUNDS" : PySem.Str), ("check_ends" : PySem.Str), ("has_in_it" : PySem.Str), ("times_stretch" : PySem.Str), ("sum_stretch" : PySem.Str), ("ends_kept" : PySem.Str), ("is_over" : PySem.Str), ("all_words" : PySem.Str), ("keep_stretch" : PySem.Str), ("stretch_of_row" : PySem.Str), ("hull" : PySem.Str), ("widened" : PySem.Str), ("box" : PySem.Str), ("is_hold_stretch" : PySem.Str), ("are_hold_stretches" : PySem.Str), ("is_box" : PySem.Str), ("may_over" : PySem.Str), ("_law_cell_at" : PySem.Str)]
def names_4 : List PySem.Str := [("_law_well" : PySem.Str), ("_law_draw" : PySem.Str), ("_law_form" : PySem.Str), ("_law_word" : PySem.Str), ("_law_row" : PySem.Str), ("_law_begin" : PySem.Str), ("_law_mixed" : PySem.Str), ("_law_link" : PySem.Str), ("_law_net" : PySem.Str), ("_law_made" : PySem.Str), ("_law_rounded" : PySem.Str), ("_law_kept" : PySem.Str), ("_law_points" : PySem.Str), ("_law_sum" : PySem.Str), ("_law_keep" : PySem.Str), ("_law_stretches" : PySem.Str), ("_law_whole" : PySem.Str), ("_law_is_box" : PySem.Str), ("_law_may_over" : PySem.Str), ("_law_all" : PySem.Str)]
def names_5 : List PySem.Str := [("_law_forged" : PySem.Str), ("_law_refused" : PySem.Str), ("_law_bad_words" : PySem.Str), ("_law_start_box" : PySem.Str)]
def names : List PySem.Str := names_0 ++ (names_1 ++ (names_2 ++ (names_3 ++ (names_4 ++ (names_5)))))
def AS_0 : List Addr := [3, 6, 4, 21, 31, 44, 56, 68, 89, 111, 133, 154, 163, 170, 177, 184, 191, 198, 205, 212, 219, 226, 233, 240, 247, 248, 255, 263, 264, 271]
def AS_1 : List Addr := [278, 285, 422, 427, 434, 441, 448, 455, 462, 469, 476, 483, 484, 491, 498, 505, 512, 519, 526, 533, 540, 635, 646, 653, 660, 667, 674, 679, 684, 691]
def AS_2 : List Addr := [698, 705, 712, 719, 726, 732, 739, 744, 749, 756, 763, 770, 777, 784, 791, 798, 803, 810, 815, 820, 825, 832, 839, 846, 851, 858, 863, 870, 875, 882]
def AS_3 : List Addr := [889, 896, 903, 910, 917, 924, 0, 20, 30, 43, 55, 67, 88, 110, 132, 153, 162, 169, 176, 183, 190, 197, 204, 211, 218, 225, 232, 239, 246, 254]
def AS_4 : List Addr := [262, 256, 270, 277, 284, 421, 433, 440, 447, 454, 461, 468, 475, 482, 490, 497, 504, 511, 518, 525, 532, 539, 634, 645, 652, 659, 666, 673, 678, 683]
def AS_5 : List Addr := [690, 697, 704, 711, 718, 725, 731, 727, 738, 743, 748, 755, 762, 769, 776, 783, 790, 797, 802, 809, 814, 819, 824, 831, 838, 845, 850, 857, 862, 869]
def AS_6 : List Addr := [874, 881, 888, 895, 902, 909, 916, 923, 19, 86, 108, 130, 151, 161, 168, 175, 182, 189, 196, 203, 210, 217, 224, 231, 238, 245, 253, 261, 269, 276]
def AS_7 : List Addr := [283, 300, 307, 314, 321, 328, 335, 342, 349, 356, 363, 370, 377, 384, 391, 398, 405, 412, 419, 432, 439, 446, 453, 460, 467, 474, 481, 489, 496, 503]
def AS_8 : List Addr := [510, 517, 524, 531, 538, 552, 559, 566, 573, 580, 587, 594, 599, 604, 611, 618, 625, 632, 644, 651, 658, 665, 672, 677, 682, 689, 696, 703, 710, 717]
def AS_9 : List Addr := [724, 730, 737, 742, 747, 754, 761, 768, 775, 782, 789, 796, 801, 808, 813, 818, 823, 830, 837, 844, 849, 856, 861, 868, 873, 880, 887, 894, 901, 908]
def AS_10 : List Addr := [915, 922, 85, 107, 100, 129, 122, 150, 299, 293, 306, 313, 320, 327, 334, 341, 348, 355, 362, 369, 376, 383, 390, 397, 404, 411, 418, 551, 558, 565]
def AS_11 : List Addr := [572, 579, 586, 593, 598, 603, 610, 617, 624, 631, 84, 106, 128, 149, 298, 305, 312, 319, 326, 333, 340, 347, 354, 361, 368, 375, 382, 389, 396, 403]
def AS_12 : List Addr := [410, 417, 550, 557, 564, 571, 578, 585, 592, 597, 602, 609, 616, 623, 630, 74, 95, 117, 139, 2]
def AS : List Addr := AS_0 ++ (AS_1 ++ (AS_2 ++ (AS_3 ++ (AS_4 ++ (AS_5 ++ (AS_6 ++ (AS_7 ++ (AS_8 ++ (AS_9 ++ (AS_10 ++ (AS_11 ++ (AS_12))))))))))))
abbrev hk : PySem.W.Hook := E1.hookY AS E1.FA E1.FN E1.TS E1.TF E1.EXB E1.ER
def ob (s : PySem.W.SharedT) : E1.AlY := E1.obsY AS E1.FA E1.FN E1.TS E1.TF E1.EXB E1.ER (HandSHeadRun.getT s)
theorem ob_eq (s : PySem.W.SharedT) : ob s = hk.obs s.abs := E1.obsY_eq (HandSHeadRun.getT_eq s)
set_option maxRecDepth 100000 in
set_option maxHeartbeats 0 in
theorem run_f (w : World) : HandSHeadRun.RunEq RR qv hk ob 6328 names (w.withFollow "special-get-raises" false) := fun os => by kernel_rfl
set_option maxRecDepth 100000 in
set_option maxHeartbeats 0 in
theorem run_t (w : World) : HandSHeadRun.RunEq RR qv hk ob 6328 names (w.withFollow "special-get-raises" true) := fun os => by kernel_rfl
theorem run (w : World) : HandSHeadRun.RunEq RR qv hk ob 6328 names w :=
  byRow2 "special-get-raises" (P := fun w => HandSHeadRun.RunEq RR qv hk ob 6328 names w) run_f run_t w
end HX

namespace E1
open PySem PySem.Spec PyProof.Rows L2

def CalD (P : Program) (w : World) (K : PySem.W.Frag) (mg : Str → Option Value) (base : Heap) (k : Nat) (x : Str) (ps : List Str) (dvs : List V) (sp : Sp) : Prop :=
  ∃ (f : Addr) (fd : FuncData) (ds : List Value), mg x = some (.ref f) ∧ PySem.W.keepIn K (.ref f) = true ∧ Vals dvs ds ∧ Binds K fd ps ds ∧ FnOk P w K mg base CX0 k f fd ps sp
theorem pe_cald {X : Cx} {k j : Nat} {x : Str} {ps : List Str} {dvs : List V} {sp : Sp} {e : Expr} {es : List Expr} {t : TA} {p pos : Pos} (c : CalD X.prog X.w X.K X.mg X.base k x ps dvs sp) (hr : Room j X.A) (ha : PA X (e :: es) t) (hle : k ≤ j := by decide) (hg : Gl X x := by rfl)
    (hdb : (x == ("__debug__" : Str)) = false := by decide) (he : starEach (e :: es) X.env = (false, eval e X.env) :: starEach es X.env := by rfl) (hpl : (backTo pos (starEach es X.env)).any (·.1) = false := by rfl) :
    PE X (.Call (.Name x p) (e :: es) [] pos) (tCall sp dvs E0 t) := by
  obtain ⟨f, fd, ds, h1, h2, hd, h3, h4⟩ := c
  exact pe_call h4 (hr.mono hle) hg h1 h2 h3 hd pass0 ha hdb he hpl
def CalK (P : Program) (w : World) (K : PySem.W.Frag) (mg : Str → Option Value) (base : Heap) (k : Nat) (x : Str) (ps : List Str) (n : Nat) (ks : List Str) (gV : List V → List V → List V) (sp : Sp) : Prop :=
  ∃ (f : Addr) (fd : FuncData) (g : List Value → List Value → List Value), mg x = some (.ref f) ∧ PySem.W.keepIn K (.ref f) = true ∧ KBn K fd ps n ks g gV ∧ FnOk P w K mg base CX0 k f fd ps sp
theorem pe_calk {X : Cx} {k j n : Nat} {x : Str} {ps ks : List Str} {gV : List V → List V → List V} {sp : Sp} {e : Expr} {es : List Expr} {kws : List Keyword} {t tk : TA} {p pos : Pos} (c : CalK X.prog X.w X.K X.mg X.base k x ps n ks gV sp) (hr : Room j X.A)
    (ha : PA X (e :: es) t) (hkw : PK X kws tk) (hle : k ≤ j := by decide) (hg : Gl X x := by rfl) (hall : (backToKw pos (keywordEach kws X.env)).all (·.1.isSome) = true := by rfl) (hks : (backToKw pos (keywordEach kws X.env)).filterMap (·.1) = ks := by rfl)
    (hdb : (x == ("__debug__" : Str)) = false := by decide) (he : starEach (e :: es) X.env = (false, eval e X.env) :: starEach es X.env := by rfl)
    (hpl : ((backTo pos (starEach (e :: es) X.env)).any (·.1) || (backToKw pos (keywordEach kws X.env)).any (·.1.isNone)) = false := by rfl) :
    PE X (.Call (.Name x p) (e :: es) kws pos) (tCallN n ks.length sp gV E0 t tk) := by
  obtain ⟨f, fd, g, h1, h2, h3, h4⟩ := c
  exact pe_callN h4 (hr.mono hle) hg h1 h2 h3 pass0 ha hkw hall hks hdb he hpl
theorem pe_calk0 {X : Cx} {k j : Nat} {x : Str} {ps ks : List Str} {gV : List V → List V → List V} {sp : Sp} {kws : List Keyword} {tk : TA} {p pos : Pos} (c : CalK X.prog X.w X.K X.mg X.base k x ps 0 ks gV sp) (hr : Room j X.A)
    (hkw : PK X kws tk) (hle : k ≤ j := by decide) (hg : Gl X x := by rfl) (hall : (backToKw pos (keywordEach kws X.env)).all (·.1.isSome) = true := by rfl) (hks : (backToKw pos (keywordEach kws X.env)).filterMap (·.1) = ks := by rfl)
    (hdb : (x == ("__debug__" : Str)) = false := by decide)
    (hpl : ((backTo pos (starEach [] X.env)).any (·.1) || (backToKw pos (keywordEach kws X.env)).any (·.1.isNone)) = false := by rfl) :
    PE X (.Call (.Name x p) [] kws pos) (tCallN 0 ks.length sp gV E0 tNil tk) := by
  obtain ⟨f, fd, g, h1, h2, h3, h4⟩ := c
  refine ⟨fun pins s σ H Q I h => ?_⟩
  refine wpAny_Call_Name_kw (ld_glob I hg h1 ?_ hdb)
  refine PySem.W.callWith_KW0 (h₀ := X.base) I.ok.mod.kin h2 hall (thn (hkw.run pos pins s σ H _ I h) fun ws s2 ⟨zs, H2, I2, rz, l1, l2, q2⟩ => ⟨I2.kIn, ?_⟩) hpl
  rw [hks]
  exact run_fnN (vs := []) (us := []) h4 (hr.mono hle) h3 pass0 I2 .nil rz l1 l2 q2
/-- a class handed to isinstance -/
theorem isiB {K : PySem.W.Frag} {H : Hp} {x : V} {a b : String} {r : Bool} {Q : VK} (ty : TyX K H x (.type a)) (k : kitB a b = some r) (q : Q (.bl r) H) : rIsi K [x, .ty b] H Q :=
  ⟨x, .ty b, .type a, .type b, r, rfl, .ty _, ty, kit_ty k, q⟩
/-- whether a thing is a whole number -/
def WholeIs (K : PySem.W.Frag) (H : Hp) (x : V) (b : Bool) : Prop := (∃ i, x = .int i ∧ b = true) ∨ (∃ c, x = .bl c ∧ b = false) ∨ (b = false ∧ ∃ t : String, TyX K H x (.type t) ∧ kitB t "int" = some false)
theorem WholeIs.int {K : PySem.W.Frag} {H : Hp} (i : Int) : WholeIs K H (.int i) true := .inl ⟨i, rfl, rfl⟩
def spWhole (K : PySem.W.Frag) : Sp := fun vs H Q _ => ∃ (x : V) (b : Bool), vs = [x] ∧ WholeIs K H x b ∧ Q (.bl b) H
/-! ### the mathematics of fractions in lowest terms -/
def gI (t b : Int) : Int := (Int.gcd t b : Nat)
def lowT (t b : Int) : Int := (if b < 0 then -t else t) / gI t b
def lowB (t b : Int) : Int := (if b < 0 then -b else b) / gI t b
theorem gI_neg (t b : Int) : gI (-t) (-b) = gI t b := by
  unfold gI
  rw [Int.neg_gcd, Int.gcd_neg]
theorem gI_pos {t b : Int} (h : b ≠ 0) : 0 < gI t b := by
  have : 0 < Int.gcd t b := Int.gcd_pos_of_ne_zero_right t h
  unfold gI
  omega
theorem gI_le {t b : Int} (h : b ≠ 0) : (gI t b).natAbs ≤ b.natAbs := by
  have d : Int.gcd t b ∣ b.natAbs := Nat.gcd_dvd_right t.natAbs b.natAbs
  have := Nat.le_of_dvd (by omega) d
  unfold gI
  omega
def spShared : Sp := fun vs H Q _ => ∃ t b : Int, vs = [.int t, .int b] ∧ 0 ≤ b ∧ Q (.int (gI t b)) H
def spLow : Sp := fun vs H Q _ => ∃ t b : Int, vs = [.int t, .int b] ∧ b ≠ 0 ∧ b.natAbs < 2 ^ 4000 ∧ ∀ p, H p = none → Q (.ref p) (upd H p (.tup [.int (lowT t b), .int (lowB t b)]))
/-- two fractions at two places; the tops and bottoms told by f and d -/
def spTwo (K : PySem.W.Frag) (pre : Int → Int → Int → Int → Prop) (f d : Int → Int → Int → Int → Int) : Sp := fun vs H Q _ => ∃ (a c : Addr) (t u v x : Int), vs = [.ref a, .ref c] ∧ SqT K H a [.int t, .int u] ∧ SqT K H c [.int v, .int x] ∧
  pre t u v x ∧ 0 < u ∧ 0 < x ∧ t.natAbs < 2 ^ 1900 ∧ u.natAbs < 2 ^ 1900 ∧ v.natAbs < 2 ^ 1900 ∧ x.natAbs < 2 ^ 1900 ∧ ∀ p, H p = none → Q (.ref p) (upd H p (.tup [.int (lowT (f t u v x) (d t u v x)), .int (lowB (f t u v x) (d t u v x))]))
def spUnder (K : PySem.W.Frag) : Sp := fun vs H Q _ => ∃ (a c : Addr) (t u v x : Int), vs = [.ref a, .ref c] ∧ SqT K H a [.int t, .int u] ∧ SqT K H c [.int v, .int x] ∧
  t.natAbs < 2 ^ 1900 ∧ u.natAbs < 2 ^ 1900 ∧ v.natAbs < 2 ^ 1900 ∧ x.natAbs < 2 ^ 1900 ∧ Q (.bl (decide (t * x < v * u))) H
def absI (t : Int) : Int := if t < 0 then -t else t
def spSize (K : PySem.W.Frag) : Sp := fun vs H Q _ => ∃ (a : Addr) (t u : Int), vs = [.ref a] ∧ SqT K H a [.int t, .int u] ∧ ∀ p, H p = none → Q (.ref p) (upd H p (.tup [.int (absI t), .int u]))
def twoT (m : Int) : Int := if m < 0 then 1 else 2 ^ m.toNat
def twoB (m : Int) : Int := if m < 0 then 2 ^ (-m).toNat else 1
def spTwoTo : Sp := fun vs H Q _ => ∃ m : Int, vs = [.int m] ∧ -400 ≤ m ∧ m ≤ 400 ∧ ∀ p, H p = none → Q (.ref p) (upd H p (.tup [.int (twoT m), .int (twoB m)]))
def spIsFrac : Sp := fun vs H Q _ => ∃ (a : Addr) (t u : Int), vs = [.ref a] ∧ H a = some (.tup [.int t, .int u]) ∧ 1 ≤ u ∧ Q (.bl (decide (gI t u = 1))) H
theorem up {x : Nat} {a b : Nat} (h : x < 2 ^ a) (l : a ≤ b) : x < 2 ^ b := Nat.lt_of_lt_of_le h (Nat.pow_le_pow_right (by decide) l)
theorem up2 {x y : Nat} {a b : Nat} (h : x ≤ y) (h2 : y < 2 ^ a) (l : a ≤ b) : x < 2 ^ b := Nat.lt_of_le_of_lt h (up h2 l)
theorem same_but {H H1 H2 : Hp} {p : Addr} (s : Same H H1) (b : SameBut p H1 H2) (hp : H p = none) : Same H H2 := fun a o e => b a o (ne_of_none e hp) (s a o e)
theorem Same.free {H H' : Hp} {p : Addr} (s : Same H H') (h : H' p = none) : H p = none := by
  cases e : H p with
  | none => rfl
  | some o =>
    rw [s _ _ e] at h
    cases h
structure Zs (mg : Str → Option Value) : Prop where
  isinstance : mg "isinstance" = none
  int : mg "int" = none
  bool : mg "bool" = none
  abs : mg "abs" = none
  str : mg "str" = none
  len : mg "len" = none
  max : mg "max" = none
  tuple : mg "tuple" = none
  list : mg "list" = none
  enumerate : mg "enumerate" = none
  min : mg "min" = none
  zip : mg "zip" = none
  all : mg "all" = none
  range : mg "range" = none
  divmod : mg "divmod" = none
  sorted : mg "sorted" = none
section
variable {P : Program} {w : World} {K : PySem.W.Frag} {mg : Str → Option Value} {base : Heap}
theorem sc_is_whole : FnScope ["thing"] ["thing"] (defScope s_is_whole) := ⟨rfl, rfl, rfl, by decide +kernel, rfl, by decide +kernel, by decide +kernel⟩
theorem ok_is_whole {f : Addr} {fd : FuncData} {k : Nat} (F : Fun K "is_whole" "is_whole" s_is_whole f fd) (z : Zs mg) : FnOk P w K mg base CX0 (k + 1) f fd ["thing"] (spWhole K) := by
  refine F.ok sc_is_whole (fun vs H Q E h => ?_) (fun cdv A outer s H vs Q E hr h => ?_)
  · obtain ⟨x, b, rfl, _⟩ := h
    rfl
  · obtain ⟨x, b, rfl, hw, q⟩ := h
    refine ⟨_, (pss_one (ps_ret (pe_and (pe_callB call_isi (by rfl) z.isinstance (by decide +kernel) (pa_cons (pv 0) (pa_cons (pe_bltn (v := .ty "int") (by rfl) z.int (by decide +kernel) rfl) pa_nil))) (pe_one (pe_not (pe_callB call_isi (by rfl) z.isinstance (by decide +kernel) (pa_cons (pv 0) (pa_cons (pe_bltn (v := .ty "bool") (by rfl) z.bool (by decide +kernel) rfl) pa_nil)))))))), ?_⟩
    rcases hw with ⟨i, rfl, rfl⟩ | ⟨c, rfl, rfl⟩ | ⟨rfl, t, ty, kt⟩
    · exact ⟨_, rfl, _, .ty "int", _, _, true, rfl, .ty _, .base (.int i), kit_ty (by decide +kernel), _, rfl, iteT ⟨_, rfl, _, .ty "bool", _, _, false, rfl, .ty _, .base (.int i), kit_ty (by decide +kernel), _, rfl, q⟩⟩
    · exact ⟨_, rfl, _, .ty "int", _, _, true, rfl, .ty _, .base (.bl c), kit_ty (by decide +kernel), _, rfl, iteT ⟨_, rfl, _, .ty "bool", _, _, true, rfl, .ty _, .base (.bl c), kit_ty (by decide +kernel), _, rfl, q⟩⟩
    · exact ⟨_, rfl, _, .ty "int", _, _, false, rfl, .ty _, ty, kit_ty kt, _, rfl, iteF q⟩
theorem sc_shared_divisor : FnScope ["top", "bottom", "one", "other"] ["top", "bottom"] (defScope s_shared_divisor) := ⟨rfl, rfl, rfl, by decide +kernel, rfl, by decide +kernel, by decide +kernel⟩
theorem ok_shared_divisor {f : Addr} {fd : FuncData} {k : Nat} (F : Fun K "shared_divisor" "shared_divisor" s_shared_divisor f fd) (z : Zs mg) : FnOk P w K mg base CX0 (k + 1) f fd ["top", "bottom"] spShared := by
  refine F.ok sc_shared_divisor (fun vs H Q E h => ?_) (fun cdv A outer s H vs Q E hr h => ?_)
  · obtain ⟨t, b, rfl, _⟩ := h
    rfl
  · obtain ⟨t, b, rfl, hb, q⟩ := h
    refine ⟨_, (pss_cons (ps_set (i := 2) sc_shared_divisor.nd rfl (.inl rfl) (pe_callB call_abs (by rfl) z.abs (by decide +kernel) (pa_cons (pv 0) pa_nil)))
      (pss_cons (ps_set (i := 3) sc_shared_divisor.nd rfl (.inl rfl) (pv 1))
      (pss_cons (ps_while PassesOwn.never (pt_truth (pv 3) (by intro _; rfl)) (pss_one (ps_par (i := 2) (j := 3) (by rfl) sc_shared_divisor.nd rfl rfl (by decide) rfl rfl (pa_cons (pv 3) (pa_cons (pe_op op_mod (pv 2) (pv 3)) pa_nil)) (by rfl))))
      (pss_one (ps_ret (pv 2)))))), ?_⟩
    refine ⟨_, rfl, _, rfl, ?_⟩
    refine ⟨_, rfl, ?_⟩
    dsimp only [gName, tSeq]
    refine while_by (fun σ H' => H' = H ∧ ∃ m n : Nat, σ = [some (.int t), some (.int b), some (.int (m : Int)), some (.int (n : Int))] ∧ Nat.gcd m n = Int.gcd t b)
      (fun σ _ => match σ with | [_, _, _, some (.int r)] => r.toNat | _ => 0) ⟨rfl, t.natAbs, b.natAbs, ?_, rfl⟩ (fun σ H1 hP => ?_) (fun σ H Q Q' m hh => ?_)
    · have e1 : (if t < 0 then -t else t) = (t.natAbs : Int) := by split <;> omega
      have e2 : b = (b.natAbs : Int) := by omega
      show [some (V.int t), some (V.int b), some (V.int (if t < 0 then -t else t)), some (V.int b)] = _
      rw [e1, ← e2]
    · obtain ⟨rfl, m, n, rfl, hg⟩ := hP
      refine ⟨_, rfl, _, rfl, ?_⟩
      by_cases hn : n = 0
      · subst hn
        have e : ((((0 : Nat) : Int)) != 0) = false := rfl
        rw [e]
        refine iteF ⟨_, rfl, ?_⟩
        rw [Nat.gcd_zero_right] at hg
        have e2 : (m : Int) = gI t b := by
          unfold gI
          rw [hg]
        rw [e2]
        exact q
      · have e : ((n : Int) != 0) = true := by
          rw [bne_iff_ne]
          omega
        rw [e]
        refine iteT ⟨_, rfl, _, rfl, _, rfl, _, _, rfl, rfl, (by omega), _, _, rfl, ⟨⟨rfl, n, m % n, rfl, ?_⟩, ?_⟩⟩
        · rw [← hg, Nat.gcd_comm n (m % n), ← Nat.gcd_rec n m, Nat.gcd_comm]
        · show ((m : Int) % (n : Int)).toNat < ((n : Int)).toNat
          have := Int.emod_lt_of_pos (m : Int) (show (0 : Int) < n by omega)
          have := Int.emod_nonneg (m : Int) (show (n : Int) ≠ 0 by omega)
          omega
    · obtain ⟨v, e, kk, tv, hq⟩ := hh
      exact ⟨v, e, kk, tv, m _ _ hq⟩
theorem sc_lowest : FnScope ["top", "bottom", "shared"] ["top", "bottom"] (defScope s_lowest) := ⟨rfl, rfl, rfl, by decide +kernel, rfl, by decide +kernel, by decide +kernel⟩
theorem ok_lowest {f : Addr} {fd : FuncData} (F : Fun K "lowest" "lowest" s_lowest f fd) (c_shared_divisor : Cal P w K mg base 1 "shared_divisor" ["top", "bottom"] spShared) : FnOk P w K mg base CX0 2 f fd ["top", "bottom"] spLow := by
  refine F.ok sc_lowest (fun vs H Q E h => ?_) (fun cdv A outer s H vs Q E hr h => ?_)
  · obtain ⟨t, b, rfl, _⟩ := h
    rfl
  · obtain ⟨t, b, rfl, hb, hl, q⟩ := h
    refine ⟨_, (pss_cons (ps_if (pt_cmpR op_lt (pv 1) pe_int (nomark _)) (pss_cons (ps_set (i := 0) sc_lowest.nd rfl (.inl rfl) (pe_un un_neg (pv 0)))
      (pss_one (ps_set (i := 1) sc_lowest.nd rfl (.inl rfl) (pe_un un_neg (pv 1))))) pss_nil)
      (pss_cons (ps_set (i := 2) sc_lowest.nd rfl (.inl rfl) (pe_cal c_shared_divisor hr (pa_cons (pv 0) (pa_cons (pv 1) pa_nil))))
      (pss_one (ps_ret (pe_tup (pa_cons (pe_op op_fdivW (pv 0) (pv 2)) (pa_cons (pe_op op_fdivW (pv 1) (pv 2)) pa_nil))))))), ?_⟩
    have g0 := gI_pos (t := t) hb
    have g1 : (gI t b).natAbs < 2 ^ 4000 := Nat.lt_of_le_of_lt (gI_le hb) hl
    refine ⟨_, rfl, _, _, rfl, rfl, _, rfl, ite2 (fun c => ?_) (fun c => ?_)⟩
    · have hc := toB c
      refine ⟨_, rfl, _, rfl, ?_⟩
      refine ⟨_, rfl, _, rfl, ?_⟩
      refine ⟨_, rfl, _, rfl, -t, -b, rfl, by omega, ?_⟩
      rw [gI_neg]
      refine ⟨_, rfl, _, rfl, _, _, rfl, rfl, wide_div g0 g1 (by decide) (by decide), _, rfl, _, rfl, _, _, rfl, rfl, wide_div g0 g1 (by decide) (by decide), (by show 2 ≤ sizeLine; decide), fun p hp => ?_⟩
      have := q p hp
      unfold lowT lowB at this
      rw [if_pos hc, if_pos hc] at this
      exact this
    · have hc := toNB c
      refine ⟨_, rfl, _, rfl, t, b, rfl, by omega, ?_⟩
      refine ⟨_, rfl, _, rfl, _, _, rfl, rfl, wide_div g0 g1 (by decide) (by decide), _, rfl, _, rfl, _, _, rfl, rfl, wide_div g0 g1 (by decide) (by decide), (by show 2 ≤ sizeLine; decide), fun p hp => ?_⟩
      have := q p hp
      unfold lowT lowB at this
      rw [if_neg hc, if_neg hc] at this
      exact this
theorem sc_times : FnScope ["one", "other"] ["one", "other"] (defScope s_times) := ⟨rfl, rfl, rfl, by decide +kernel, rfl, by decide +kernel, by decide +kernel⟩
theorem ok_times {f : Addr} {fd : FuncData} (F : Fun K "times" "times" s_times f fd) (c_lowest : Cal P w K mg base 2 "lowest" ["top", "bottom"] spLow) : FnOk P w K mg base CX0 3 f fd ["one", "other"] (spTwo K (fun t u v x => True) (fun t u v x => t * v) (fun t u v x => u * x)) := by
  refine F.ok sc_times (fun vs H Q E h => ?_) (fun cdv A outer s H vs Q E hr h => ?_)
  · obtain ⟨a, c, t, u, v, x, rfl, _⟩ := h
    rfl
  · obtain ⟨a, c, t, u, v, x, rfl, ha, hc, pr, hu, hx, b1, b2, b3, b4, q⟩ := h
    refine ⟨_, (pss_one (ps_ret (pe_cal c_lowest hr (pa_cons (pe_op op_mulW (pe_ix ix_tup (pv 0) pe_int (fun _ _ => rfl)) (pe_ix ix_tup (pv 1) pe_int (fun _ _ => rfl))) (pa_cons (pe_op op_mulW (pe_ix ix_tup (pv 0) pe_int (fun _ _ => rfl)) (pe_ix ix_tup (pv 1) pe_int (fun _ _ => rfl))) pa_nil))))), ?_⟩
    have nz : u * x ≠ 0 := Int.mul_ne_zero (by omega) (by omega)
    refine ⟨_, rfl, a, _, 0, .int t, rfl, rfl, ha, a0, _, rfl, c, _, 0, .int v, rfl, rfl, hc, a0, _, _, rfl, rfl, wide_mul b1 b3 (by decide) (by decide) (by decide), _, rfl, a, _, 1, .int u, rfl, rfl, ha, a1, _, rfl, c, _, 1, .int x, rfl, rfl, hc, a1, _, _, rfl, rfl, wide_mul b2 b4 (by decide) (by decide) (by decide), _, _, rfl, nz, ?_, q⟩
    exact Nat.lt_of_lt_of_le (wide_lt b2 b4) (Nat.pow_le_pow_right (by decide) (by decide))
theorem sc_divided : FnScope ["one", "other"] ["one", "other"] (defScope s_divided) := ⟨rfl, rfl, rfl, by decide +kernel, rfl, by decide +kernel, by decide +kernel⟩
theorem ok_divided {f : Addr} {fd : FuncData} (F : Fun K "divided" "divided" s_divided f fd) (c_lowest : Cal P w K mg base 2 "lowest" ["top", "bottom"] spLow) : FnOk P w K mg base CX0 3 f fd ["one", "other"] (spTwo K (fun t u v x => v ≠ 0) (fun t u v x => t * x) (fun t u v x => u * v)) := by
  refine F.ok sc_divided (fun vs H Q E h => ?_) (fun cdv A outer s H vs Q E hr h => ?_)
  · obtain ⟨a, c, t, u, v, x, rfl, _⟩ := h
    rfl
  · obtain ⟨a, c, t, u, v, x, rfl, ha, hc, pr, hu, hx, b1, b2, b3, b4, q⟩ := h
    refine ⟨_, (pss_cons (ps_if (pt_cmpR op_eq (pe_ix ix_tup (pv 1) pe_int (fun _ _ => rfl)) pe_int (nomark _)) (pss_one ps_never) pss_nil)
      (pss_one (ps_ret (pe_cal c_lowest hr (pa_cons (pe_op op_mulW (pe_ix ix_tup (pv 0) pe_int (fun _ _ => rfl)) (pe_ix ix_tup (pv 1) pe_int (fun _ _ => rfl))) (pa_cons (pe_op op_mulW (pe_ix ix_tup (pv 0) pe_int (fun _ _ => rfl)) (pe_ix ix_tup (pv 1) pe_int (fun _ _ => rfl))) pa_nil)))))), ?_⟩
    have nz : u * v ≠ 0 := Int.mul_ne_zero (by omega) pr
    refine ⟨_, rfl, c, _, 0, .int v, rfl, rfl, hc, a0, rfl, _, rfl, ite2 (fun c' => absurd (V.int.inj (toB c')) pr) (fun _ => ?_)⟩
    refine ⟨_, rfl, a, _, 0, .int t, rfl, rfl, ha, a0, _, rfl, c, _, 1, .int x, rfl, rfl, hc, a1, _, _, rfl, rfl, wide_mul b1 b4 (by decide) (by decide) (by decide), _, rfl, a, _, 1, .int u, rfl, rfl, ha, a1, _, rfl, c, _, 0, .int v, rfl, rfl, hc, a0, _, _, rfl, rfl, wide_mul b2 b3 (by decide) (by decide) (by decide), _, _, rfl, nz, ?_, q⟩
    exact Nat.lt_of_lt_of_le (wide_lt b2 b3) (Nat.pow_le_pow_right (by decide) (by decide))
theorem sc_two_to : FnScope ["many"] ["many"] (defScope s_two_to) := ⟨rfl, rfl, rfl, by decide +kernel, rfl, by decide +kernel, by decide +kernel⟩
theorem ok_two_to {f : Addr} {fd : FuncData} (F : Fun K "two_to" "two_to" s_two_to f fd) (z : Zs mg) (c_is_whole : Cal P w K mg base 1 "is_whole" ["thing"] (spWhole K)) (g_GREATEST_POWER : ∃ t, mg "GREATEST_POWER" = some (.int 400 t)) : FnOk P w K mg base CX0 2 f fd ["many"] spTwoTo := by
  refine F.ok sc_two_to (fun vs H Q E h => ?_) (fun cdv A outer s H vs Q E hr h => ?_)
  · obtain ⟨m, rfl, _⟩ := h
    rfl
  · obtain ⟨m, rfl, m0, m1, q⟩ := h
    obtain ⟨tok, gP⟩ := g_GREATEST_POWER
    refine ⟨_, (pss_cons (ps_if (PW.pt (pw_or (pt_not (pt_val (pe_cal c_is_whole hr (pa_cons (pv 0) pa_nil)))) (pw_or1 (pt_cmpR op_gt (pe_callB call_abs (by rfl) z.abs (by decide +kernel) (pa_cons (pv 0) pa_nil)) (pe_glob (v := .int 400) (by rfl) gP ⟨_, rfl⟩) (nomark _))))) (pss_one ps_never) pss_nil)
      (pss_cons (ps_if (pt_cmpR op_lt (pv 0) pe_int (nomark _)) (pss_one (ps_ret (pe_tup (pa_cons pe_int (pa_cons (pe_op op_shl pe_int (pe_un un_neg (pv 0))) pa_nil))))) pss_nil)
      (pss_one (ps_ret (pe_tup (pa_cons (pe_op op_shl pe_int (pv 0)) (pa_cons pe_int pa_nil))))))), ?_⟩
    refine ⟨_, rfl, _, _, rfl, .int m, _, rfl, iteF ⟨_, rfl, _, rfl, _, _, rfl, rfl, _, rfl, ite2 (fun c => ?_) (fun c => ?_)⟩⟩
    · have := toB c
      split at this <;> omega
    · refine ⟨_, rfl, _, _, rfl, rfl, _, rfl, ite2 (fun c2 => ?_) (fun c2 => ?_)⟩
      · have hm := toB c2
        refine ⟨_, rfl, _, rfl, _, _, rfl, rfl, ⟨by omega, by omega, by decide⟩, (by show 2 ≤ sizeLine; decide), fun p hp => ?_⟩
        have e := q p hp
        unfold twoT twoB at e
        rw [if_pos hm, if_pos hm] at e
        show Q (.ref p) (upd H p (.tup [.int 1, .int (1 * 2 ^ (-m).toNat)]))
        rw [Int.one_mul]
        exact e
      · have hm := toNB c2
        refine ⟨_, rfl, _, _, rfl, rfl, ⟨by omega, by omega, by decide⟩, (by show 2 ≤ sizeLine; decide), fun p hp => ?_⟩
        have e := q p hp
        unfold twoT twoB at e
        rw [if_neg hm, if_neg hm] at e
        show Q (.ref p) (upd H p (.tup [.int (1 * 2 ^ m.toNat), .int 1]))
        rw [Int.one_mul]
        exact e
end
end E1

namespace E1
open PySem PySem.Spec PyProof.Rows L2
/-! ### the seven manners -/
inductive Mn where
  | down | up | inn | out | half | even | far
def Mn.str : Mn → Str
  | .down => "down"
  | .up => "up"
  | .inn => "in"
  | .out => "out"
  | .half => "half"
  | .even => "even"
  | .far => "far"
def fDown (t b : Int) : Int := t / b
def fUp (t b : Int) : Int := -(-t / b)
def fHalf (t b : Int) : Int := (2 * t + b) / (2 * b)
def fEven (t b : Int) : Int := if 2 * (fHalf t b * b - t) = b ∧ fHalf t b % 2 ≠ 0 then fHalf t b - 1 else fHalf t b
def fFar (t b : Int) : Int := if t > 0 then fHalf t b else -(fHalf (-t) b)
def fIn (t b : Int) : Int := if t > 0 then fDown t b else fUp t b
def fOut (t b : Int) : Int := if t > 0 then fUp t b else fDown t b
def Mn.f : Mn → Int → Int → Int
  | .down => fDown
  | .up => fUp
  | .inn => fIn
  | .out => fOut
  | .half => fHalf
  | .even => fEven
  | .far => fFar
def lawR (m : Mn) (t b : Int) : Int :=
  match m with
  | .down => t / b
  | .up => if t % b = 0 then t / b else t / b + 1
  | .inn => if t % b = 0 then t / b else t / b + (if t < 0 then 1 else 0)
  | .out => if t % b = 0 then t / b else t / b + (if t > 0 then 1 else 0)
  | .half => if 2 * (t % b) < b then t / b else t / b + 1
  | .even => if 2 * (t % b) < b then t / b else if b < 2 * (t % b) then t / b + 1 else t / b + t / b % 2
  | .far => if 2 * (t % b) < b then t / b else if b < 2 * (t % b) then t / b + 1 else t / b + (if t > 0 then 1 else 0)
theorem div_is {t b q : Int} (hb : 0 < b) (h1 : q * b ≤ t) (h2 : t < q * b + b) : t / b = q := by
  have a1 : q ≤ t / b := Int.le_ediv_of_mul_le hb h1
  have a2 : t / b < q + 1 := Int.ediv_lt_of_lt_mul hb (by rw [Int.add_mul, Int.one_mul]; exact h2)
  omega
theorem dm (t : Int) {b : Int} (hb : 0 < b) : t = t / b * b + t % b ∧ 0 ≤ t % b ∧ t % b < b := by
  refine ⟨?_, Int.emod_nonneg _ (by omega), Int.emod_lt_of_pos _ hb⟩
  have := Int.mul_ediv_add_emod t b
  rw [Int.mul_comm] at this
  omega
theorem fUp_is {t b : Int} (hb : 0 < b) : fUp t b = if t % b = 0 then t / b else t / b + 1 := by
  obtain ⟨e, r0, r1⟩ := dm t hb
  unfold fUp
  generalize t / b = q at *
  generalize t % b = r at *
  split
  · rename_i h
    have := div_is (t := -t) (q := -q) hb (by rw [Int.neg_mul]; omega) (by rw [Int.neg_mul]; omega)
    rw [this]
    omega
  · rename_i h
    have := div_is (t := -t) (q := -q - 1) hb (by rw [Int.sub_mul, Int.neg_mul, Int.one_mul]; omega) (by rw [Int.sub_mul, Int.neg_mul, Int.one_mul]; omega)
    rw [this]
    omega
theorem fHalf_is {t b : Int} (hb : 0 < b) : fHalf t b = if 2 * (t % b) < b then t / b else t / b + 1 := by
  obtain ⟨e, r0, r1⟩ := dm t hb
  unfold fHalf
  generalize t / b = q at *
  generalize t % b = r at *
  have e2 : q * (2 * b) = 2 * (q * b) := Int.mul_left_comm q 2 b
  split
  · rename_i h
    exact div_is (by omega) (by rw [e2]; omega) (by rw [e2]; omega)
  · rename_i h
    exact div_is (by omega) (by rw [Int.add_mul, e2, Int.one_mul]; omega) (by rw [Int.add_mul, e2, Int.one_mul]; omega)
theorem fHalf_neg {t b : Int} (hb : 0 < b) : -(fHalf (-t) b) = if b < 2 * (t % b) then t / b + 1 else t / b := by
  obtain ⟨e, r0, r1⟩ := dm t hb
  unfold fHalf
  generalize t / b = q at *
  generalize t % b = r at *
  have e2 : q * (2 * b) = 2 * (q * b) := Int.mul_left_comm q 2 b
  split
  · rename_i h
    have := div_is (t := 2 * -t + b) (b := 2 * b) (q := -q - 1) (by omega) (by rw [Int.sub_mul, Int.neg_mul, e2, Int.one_mul]; omega) (by rw [Int.sub_mul, Int.neg_mul, e2, Int.one_mul]; omega)
    rw [this]
    omega
  · rename_i h
    have := div_is (t := 2 * -t + b) (b := 2 * b) (q := -q) (by omega) (by rw [Int.neg_mul, e2]; omega) (by rw [Int.neg_mul, e2]; omega)
    rw [this]
    omega
theorem fEven_is {t b : Int} (hb : 0 < b) : fEven t b = lawR .even t b := by
  obtain ⟨e, r0, r1⟩ := dm t hb
  unfold fEven
  rw [fHalf_is hb]
  show _ = if 2 * (t % b) < b then t / b else if b < 2 * (t % b) then t / b + 1 else t / b + t / b % 2
  generalize t / b = q at *
  generalize t % b = r at *
  by_cases h : 2 * r < b
  · rw [if_pos h, if_pos h, if_neg (by intro z; omega)]
  · rw [if_neg h, if_neg h, Int.add_mul, Int.one_mul]
    by_cases h2 : b < 2 * r
    · rw [if_pos h2, if_neg (by intro z; omega)]
    · rw [if_neg h2]
      by_cases h3 : (q + 1) % 2 ≠ 0
      · rw [if_pos ⟨by omega, h3⟩]
        omega
      · rw [if_neg (fun z => h3 z.2)]
        omega
theorem f_lawR (m : Mn) {t b : Int} (hb : 0 < b) : m.f t b = lawR m t b := by
  obtain ⟨e, r0, r1⟩ := dm t hb
  cases m with
  | down => rfl
  | up => exact fUp_is hb
  | inn =>
    show fIn t b = if t % b = 0 then t / b else t / b + (if t < 0 then 1 else 0)
    unfold fIn fDown
    rw [fUp_is hb]
    by_cases h : t > 0
    · rw [if_pos h, if_neg (show ¬ t < 0 by omega)]
      split <;> omega
    · rw [if_neg h]
      by_cases h2 : t < 0
      · rw [if_pos h2]
      · have h3 : t = 0 := by omega
        rw [if_neg h2, h3]
        simp
  | out =>
    show fOut t b = if t % b = 0 then t / b else t / b + (if t > 0 then 1 else 0)
    unfold fOut fDown
    rw [fUp_is hb]
    by_cases h : t > 0
    · rw [if_pos h, if_pos h]
    · rw [if_neg h, if_neg h]
      split <;> omega
  | half => exact fHalf_is hb
  | even => exact fEven_is hb
  | far =>
    show fFar t b = if 2 * (t % b) < b then t / b else if b < 2 * (t % b) then t / b + 1 else t / b + (if t > 0 then 1 else 0)
    unfold fFar
    rw [fHalf_is hb, fHalf_neg hb]
    by_cases h : t > 0
    · rw [if_pos h, if_pos h]
      split
      · rfl
      · split <;> rfl
    · rw [if_neg h, if_neg h]
      by_cases h2 : 2 * (t % b) < b
      · rw [if_pos h2, if_neg (show ¬ b < 2 * (t % b) by omega)]
      · rw [if_neg h2]
        split <;> omega
theorem lt_g {x y g : Int} (hg : 0 < g) : x * g < y * g ↔ x < y := ⟨fun h => Int.lt_of_mul_lt_mul_right h (Int.le_of_lt hg), fun h => Int.mul_lt_mul_of_pos_right h hg⟩
theorem lawR_mul (m : Mn) {t b g : Int} (hb : 0 < b) (hg : 0 < g) : lawR m (t * g) (b * g) = lawR m t b := by
  have e1 : t * g / (b * g) = t / b := Int.mul_ediv_mul_of_pos_left _ _ hg
  have e2 : t * g % (b * g) = t % b * g := by
    rw [Int.mul_comm t g, Int.mul_comm b g, Int.mul_emod_mul_of_pos _ _ hg, Int.mul_comm]
  have c0 : t % b * g = 0 ↔ t % b = 0 := by
    constructor
    · intro h
      rcases Int.mul_eq_zero.mp h with h | h
      · exact h
      · omega
    · intro h
      rw [h, Int.zero_mul]
  have c1 : t * g < 0 ↔ t < 0 := by
    have := lt_g (x := t) (y := 0) hg
    rw [Int.zero_mul] at this
    exact this
  have c2 : t * g > 0 ↔ t > 0 := by
    have := lt_g (x := 0) (y := t) hg
    rw [Int.zero_mul] at this
    exact this
  have c3 : 2 * (t % b * g) < b * g ↔ 2 * (t % b) < b := by
    rw [← Int.mul_assoc]
    exact lt_g hg
  have c4 : b * g < 2 * (t % b * g) ↔ b < 2 * (t % b) := by
    rw [← Int.mul_assoc]
    exact lt_g hg
  cases m <;> simp only [lawR, e1, e2, c0, c1, c2, c3, c4]
theorem lawR_eq (m : Mn) {t b x y : Int} (hb : 0 < b) (hy : 0 < y) (h : x * b = t * y) : lawR m x y = lawR m t b := by
  rw [← lawR_mul m hy hb, h, Int.mul_comm y b, lawR_mul m hb hy]
/-- how far off -/
theorem lawR_off (m : Mn) {t b : Int} (hb : 0 < b) : -b ≤ lawR m t b * b - t ∧ lawR m t b * b - t ≤ b := by
  obtain ⟨e, r0, r1⟩ := dm t hb
  have key : ∀ q' : Int, (q' = t / b ∨ q' = t / b + 1) → -b ≤ q' * b - t ∧ q' * b - t ≤ b := fun q' h => by
    generalize t / b = q at *
    generalize t % b = r at *
    rcases h with rfl | rfl
    · omega
    · rw [Int.add_mul, Int.one_mul]
      omega
  refine key _ ?_
  clear key
  cases m <;> simp only [lawR] <;> (generalize t / b = q at *) <;> (repeat' split) <;> (first | omega | exact .inl trivial)
theorem lawR_near {m : Mn} {t b : Int} (hb : 0 < b) (hm : m = .half ∨ m = .even ∨ m = .far) : -b ≤ 2 * (lawR m t b * b - t) ∧ 2 * (lawR m t b * b - t) ≤ b := by
  obtain ⟨e, r0, r1⟩ := dm t hb
  have key : ∀ q' : Int, ((q' = t / b ∧ 2 * (t % b) ≤ b) ∨ (q' = t / b + 1 ∧ b ≤ 2 * (t % b))) → -b ≤ 2 * (q' * b - t) ∧ 2 * (q' * b - t) ≤ b := fun q' h => by
    generalize t / b = q at *
    generalize t % b = r at *
    rcases h with ⟨rfl, h⟩ | ⟨rfl, h⟩
    · omega
    · rw [Int.add_mul, Int.one_mul]
      omega
  refine key _ ?_
  clear key
  rcases hm with rfl | rfl | rfl <;> simp only [lawR] <;> (generalize t / b = q at *) <;> (repeat' split) <;> omega

def spRnd (g : Int → Int → Int) : Sp := fun vs H Q _ => ∃ t b : Int, vs = [.int t, .int b] ∧ 0 < b ∧ t.natAbs < 2 ^ 910000 ∧ b.natAbs < 2 ^ 4000 ∧ Q (.int (g t b)) H
structure Mans (P : Program) (w : World) (K : PySem.W.Frag) (mg : Str → Option Value) (base : Heap) (dM : Addr) (es : Array DictEntry) (n : Nat) : Prop where
  gm : mg "MANNERS" = some (.ref dM)
  D : KDict K w dM es n
  at_ : ∀ m : Mn, ∃ (f : Addr) (fd : FuncData), PySem.W.nsIn K dM m.str = some (some (.ref f)) ∧ PySem.W.keepIn K (.ref f) = true ∧ Binds K fd ["top", "bottom"] [] ∧ FnOk P w K mg base CX0 2 f fd ["top", "bottom"] (spRnd m.f)
/-- whether a thing is a manner -/
def MannerIs (K : PySem.W.Frag) (H : Hp) (dM : Addr) (x : V) (b : Bool) : Prop := (∃ m : Mn, x = .str m.str ∧ b = true) ∨ (∃ z : Str, x = .str z ∧ PySem.W.nsIn K dM z = some none ∧ b = false) ∨ (b = false ∧ ∃ t : String, TyX K H x (.type t) ∧ kitB t "str" = some false)
def spManner (K : PySem.W.Frag) (dM : Addr) : Sp := fun vs H Q _ => ∃ (x : V) (b : Bool), vs = [x] ∧ MannerIs K H dM x b ∧ Q (.bl b) H
def spRounded (K : PySem.W.Frag) : Sp := fun vs H Q _ => ∃ (a : Addr) (m : Mn) (t b : Int), vs = [.ref a, .str m.str] ∧ SqT K H a [.int t, .int b] ∧ 0 < b ∧ t.natAbs < 2 ^ 910000 ∧ b.natAbs < 2 ^ 4000 ∧ Q (.int (m.f t b)) H
theorem two_b {b : Int} (h : b.natAbs < 2 ^ 4000) : (2 * b).natAbs < 2 ^ 4001 := by
  rw [Int.natAbs_mul, Nat.pow_succ, Nat.mul_comm]
  exact Nat.mul_lt_mul_of_pos_right h (by decide)
theorem half_le {t b : Int} (ht : t.natAbs < 2 ^ 910000) (hb : b.natAbs < 2 ^ 4000) : (fHalf t b).natAbs < 2 ^ 910003 := by
  unfold fHalf
  refine Nat.lt_of_le_of_lt (Int.natAbs_ediv_le_natAbs _ _) ?_
  have h1 : (2 * t + b).natAbs ≤ 2 * t.natAbs + b.natAbs := by omega
  have e3 : ∀ m : Nat, 2 ^ (m + 3) = 2 ^ m * 8 := fun m => Nat.pow_add 2 m 3
  have e : 2 ^ 910003 = 2 ^ 910000 * 8 := by
    rw [show (910003 : Nat) = 910000 + 3 from rfl]
    exact e3 _
  have hb := up hb (show 4000 ≤ 910000 by omega)
  rw [e]
  generalize 2 ^ 910000 = N at *
  omega
section
variable {P : Program} {w : World} {K : PySem.W.Frag} {mg : Str → Option Value} {base : Heap}
theorem sc_downward : FnScope ["top", "bottom"] ["top", "bottom"] (defScope s_downward) := ⟨rfl, rfl, rfl, by decide +kernel, rfl, by decide +kernel, by decide +kernel⟩
theorem ok_downward {f : Addr} {fd : FuncData} {k : Nat} (F : Fun K "downward" "downward" s_downward f fd) : FnOk P w K mg base CX0 (k + 1) f fd ["top", "bottom"] (spRnd fDown) := by
  refine F.ok sc_downward (fun vs H Q E h => ?_) (fun cdv A outer s H vs Q E hr h => ?_)
  · obtain ⟨t, b, rfl, _⟩ := h
    rfl
  · obtain ⟨t, b, rfl, hb, ht, hl, q⟩ := h
    refine ⟨_, (pss_one (ps_ret (pe_op op_fdivW (pv 0) (pv 1)))), ?_⟩
    exact ⟨_, rfl, _, rfl, _, _, rfl, rfl, wide_div hb hl (by decide) (by decide), q⟩
theorem sc_upward : FnScope ["top", "bottom"] ["top", "bottom"] (defScope s_upward) := ⟨rfl, rfl, rfl, by decide +kernel, rfl, by decide +kernel, by decide +kernel⟩
theorem ok_upward {f : Addr} {fd : FuncData} {k : Nat} (F : Fun K "upward" "upward" s_upward f fd) : FnOk P w K mg base CX0 (k + 1) f fd ["top", "bottom"] (spRnd fUp) := by
  refine F.ok sc_upward (fun vs H Q E h => ?_) (fun cdv A outer s H vs Q E hr h => ?_)
  · obtain ⟨t, b, rfl, _⟩ := h
    rfl
  · obtain ⟨t, b, rfl, hb, ht, hl, q⟩ := h
    refine ⟨_, (pss_one (ps_ret (pe_un un_neg (pe_op op_fdivW (pe_un un_neg (pv 0)) (pv 1))))), ?_⟩
    exact ⟨_, rfl, _, rfl, _, rfl, _, _, rfl, rfl, wide_div hb hl (by decide) (by decide), _, rfl, q⟩
theorem sc_inward : FnScope ["top", "bottom"] ["top", "bottom"] (defScope s_inward) := ⟨rfl, rfl, rfl, by decide +kernel, rfl, by decide +kernel, by decide +kernel⟩
theorem ok_inward {f : Addr} {fd : FuncData} (F : Fun K "inward" "inward" s_inward f fd) (c_downward : Cal P w K mg base 1 "downward" ["top", "bottom"] (spRnd fDown)) (c_upward : Cal P w K mg base 1 "upward" ["top", "bottom"] (spRnd fUp)) : FnOk P w K mg base CX0 2 f fd ["top", "bottom"] (spRnd fIn) := by
  refine F.ok sc_inward (fun vs H Q E h => ?_) (fun cdv A outer s H vs Q E hr h => ?_)
  · obtain ⟨t, b, rfl, _⟩ := h
    rfl
  · obtain ⟨t, b, rfl, hb, ht, hl, q⟩ := h
    refine ⟨_, (pss_one (ps_ret (pe_ifExp (pt_cmpR op_gt (pv 0) pe_int (nomark _)) (pe_cal c_downward hr (pa_cons (pv 0) (pa_cons (pv 1) pa_nil))) (pe_cal c_upward hr (pa_cons (pv 0) (pa_cons (pv 1) pa_nil)))))), ?_⟩
    refine ⟨_, rfl, _, _, rfl, rfl, _, rfl, ite2 (fun c => ?_) (fun c => ?_)⟩
    · refine ⟨_, rfl, _, rfl, t, b, rfl, hb, ht, hl, ?_⟩
      have hc : t > 0 := toB c
      unfold fIn at q
      rw [if_pos hc] at q
      exact q
    · refine ⟨_, rfl, _, rfl, t, b, rfl, hb, ht, hl, ?_⟩
      have hc : ¬ t > 0 := toNB c
      unfold fIn at q
      rw [if_neg hc] at q
      exact q
theorem sc_outward : FnScope ["top", "bottom"] ["top", "bottom"] (defScope s_outward) := ⟨rfl, rfl, rfl, by decide +kernel, rfl, by decide +kernel, by decide +kernel⟩
theorem ok_outward {f : Addr} {fd : FuncData} (F : Fun K "outward" "outward" s_outward f fd) (c_downward : Cal P w K mg base 1 "downward" ["top", "bottom"] (spRnd fDown)) (c_upward : Cal P w K mg base 1 "upward" ["top", "bottom"] (spRnd fUp)) : FnOk P w K mg base CX0 2 f fd ["top", "bottom"] (spRnd fOut) := by
  refine F.ok sc_outward (fun vs H Q E h => ?_) (fun cdv A outer s H vs Q E hr h => ?_)
  · obtain ⟨t, b, rfl, _⟩ := h
    rfl
  · obtain ⟨t, b, rfl, hb, ht, hl, q⟩ := h
    refine ⟨_, (pss_one (ps_ret (pe_ifExp (pt_cmpR op_gt (pv 0) pe_int (nomark _)) (pe_cal c_upward hr (pa_cons (pv 0) (pa_cons (pv 1) pa_nil))) (pe_cal c_downward hr (pa_cons (pv 0) (pa_cons (pv 1) pa_nil)))))), ?_⟩
    refine ⟨_, rfl, _, _, rfl, rfl, _, rfl, ite2 (fun c => ?_) (fun c => ?_)⟩
    · refine ⟨_, rfl, _, rfl, t, b, rfl, hb, ht, hl, ?_⟩
      have hc : t > 0 := toB c
      unfold fOut at q
      rw [if_pos hc] at q
      exact q
    · refine ⟨_, rfl, _, rfl, t, b, rfl, hb, ht, hl, ?_⟩
      have hc : ¬ t > 0 := toNB c
      unfold fOut at q
      rw [if_neg hc] at q
      exact q
theorem sc_nearest_greater : FnScope ["top", "bottom"] ["top", "bottom"] (defScope s_nearest_greater) := ⟨rfl, rfl, rfl, by decide +kernel, rfl, by decide +kernel, by decide +kernel⟩
theorem ok_nearest_greater {f : Addr} {fd : FuncData} {k : Nat} (F : Fun K "nearest_greater" "nearest_greater" s_nearest_greater f fd) : FnOk P w K mg base CX0 (k + 1) f fd ["top", "bottom"] (spRnd fHalf) := by
  refine F.ok sc_nearest_greater (fun vs H Q E h => ?_) (fun cdv A outer s H vs Q E hr h => ?_)
  · obtain ⟨t, b, rfl, _⟩ := h
    rfl
  · obtain ⟨t, b, rfl, hb, ht, hl, q⟩ := h
    refine ⟨_, (pss_one (ps_ret (pe_op op_fdivW (pe_op op_add (pe_op op_mul pe_int (pv 0)) (pv 1)) (pe_op op_mul pe_int (pv 1))))), ?_⟩
    exact ⟨_, rfl, _, _, rfl, rfl, .inl ⟨by decide, by decide⟩, _, rfl, _, _, rfl, rfl, _, rfl, _, _, rfl, rfl, .inl ⟨by decide, by decide⟩, _, _, rfl, rfl, wide_div (by omega) (two_b hl) (by decide) (by decide), q⟩
theorem sc_nearest_even : FnScope ["top", "bottom", "near", "halfway"] ["top", "bottom"] (defScope s_nearest_even) := ⟨rfl, rfl, rfl, by decide +kernel, rfl, by decide +kernel, by decide +kernel⟩
theorem ok_nearest_even {f : Addr} {fd : FuncData} (F : Fun K "nearest_even" "nearest_even" s_nearest_even f fd) (c_nearest_greater : Cal P w K mg base 1 "nearest_greater" ["top", "bottom"] (spRnd fHalf)) : FnOk P w K mg base CX0 2 f fd ["top", "bottom"] (spRnd fEven) := by
  refine F.ok sc_nearest_even (fun vs H Q E h => ?_) (fun cdv A outer s H vs Q E hr h => ?_)
  · obtain ⟨t, b, rfl, _⟩ := h
    rfl
  · obtain ⟨t, b, rfl, hb, ht, hl, q⟩ := h
    have hn := half_le ht hl
    refine ⟨_, (pss_cons (ps_set (i := 2) sc_nearest_even.nd rfl (.inl rfl) (pe_cal c_nearest_greater hr (pa_cons (pv 0) (pa_cons (pv 1) pa_nil))))
      (pss_cons (ps_set (i := 3) sc_nearest_even.nd rfl (.inl rfl) (pe_cmpR op_eq (pe_op op_mul pe_int (pe_op op_sub (pe_op op_mulW (pv 2) (pv 1)) (pv 0))) (pv 1) (nomark _)))
      (pss_one (ps_ret (pe_ifExp (PW.pt (pw_and (pt_val (pv 3)) (pw_and1 (pt_truth (pe_op op_and (pv 2) pe_int) (by intro _; rfl))))) (pe_op op_sub (pv 2) pe_int) (pv 2)))))), ?_⟩
    refine ⟨_, rfl, _, rfl, t, b, rfl, hb, ht, hl, ?_⟩
    unfold fEven at q
    generalize fHalf t b = n at *
    refine ⟨_, rfl, _, rfl, _, _, rfl, rfl, wide_mul hn hl (by decide) (by decide) (by decide), _, rfl, _, _, rfl, rfl, _, _, rfl, rfl, .inl ⟨by decide, by decide⟩, _, rfl, rfl, ?_⟩
    have eB : (decide (V.int (2 * (n * b - t)) = V.int b)) = decide (2 * (n * b - t) = b) := by
      by_cases h : 2 * (n * b - t) = b
      · rw [h, decide_eq_true rfl, decide_eq_true rfl]
      · rw [decide_eq_false h, decide_eq_false (fun z => h (V.int.inj z))]
    rw [eB]
    by_cases hc : 2 * (n * b - t) = b
    · rw [decide_eq_true hc]
      refine ⟨_, rfl, _, rfl, iteT ⟨_, rfl, _, _, rfl, rfl, _, rfl, ?_⟩⟩
      rw [PyProof.Rows.bitAnd_m1]
      by_cases h2 : n % 2 ≠ 0
      · have e : (n % 2 != 0) = true := by
          rw [bne_iff_ne]
          exact h2
        rw [e]
        rw [if_pos ⟨hc, h2⟩] at q
        exact iteT ⟨_, rfl, _, _, rfl, rfl, q⟩
      · have e : (n % 2 != 0) = false := by
          have : n % 2 = 0 := by omega
          rw [this]
          rfl
        rw [e]
        rw [if_neg (fun z => h2 z.2)] at q
        exact iteF ⟨_, rfl, q⟩
    · rw [decide_eq_false hc]
      rw [if_neg (fun z => hc z.1)] at q
      exact ⟨_, rfl, _, rfl, iteF (iteF ⟨_, rfl, q⟩)⟩
theorem sc_nearest_far : FnScope ["top", "bottom"] ["top", "bottom"] (defScope s_nearest_far) := ⟨rfl, rfl, rfl, by decide +kernel, rfl, by decide +kernel, by decide +kernel⟩
theorem ok_nearest_far {f : Addr} {fd : FuncData} (F : Fun K "nearest_far" "nearest_far" s_nearest_far f fd) (c_nearest_greater : Cal P w K mg base 1 "nearest_greater" ["top", "bottom"] (spRnd fHalf)) : FnOk P w K mg base CX0 2 f fd ["top", "bottom"] (spRnd fFar) := by
  refine F.ok sc_nearest_far (fun vs H Q E h => ?_) (fun cdv A outer s H vs Q E hr h => ?_)
  · obtain ⟨t, b, rfl, _⟩ := h
    rfl
  · obtain ⟨t, b, rfl, hb, ht, hl, q⟩ := h
    refine ⟨_, (pss_one (ps_ret (pe_ifExp (pt_cmpR op_gt (pv 0) pe_int (nomark _)) (pe_cal c_nearest_greater hr (pa_cons (pv 0) (pa_cons (pv 1) pa_nil))) (pe_un un_neg (pe_cal c_nearest_greater hr (pa_cons (pe_un un_neg (pv 0)) (pa_cons (pv 1) pa_nil))))))), ?_⟩
    refine ⟨_, rfl, _, _, rfl, rfl, _, rfl, ite2 (fun c => ?_) (fun c => ?_)⟩
    · refine ⟨_, rfl, _, rfl, t, b, rfl, hb, ht, hl, ?_⟩
      have hc : t > 0 := toB c
      unfold fFar at q
      rw [if_pos hc] at q
      exact q
    · refine ⟨_, rfl, _, rfl, _, rfl, -t, b, rfl, hb, by rw [Int.natAbs_neg]; exact ht, hl, _, rfl, ?_⟩
      have hc : ¬ t > 0 := toNB c
      unfold fFar at q
      rw [if_neg hc] at q
      exact q
theorem sc_is_manner : FnScope ["thing"] ["thing"] (defScope s_is_manner) := ⟨rfl, rfl, rfl, by decide +kernel, rfl, by decide +kernel, by decide +kernel⟩
theorem ok_is_manner {f : Addr} {fd : FuncData} {k : Nat} {dM : Addr} {es : Array DictEntry} {n : Nat} (M : Mans P w K mg base dM es n) (F : Fun K "is_manner" "is_manner" s_is_manner f fd) (z : Zs mg) : FnOk P w K mg base CX0 (k + 1) f fd ["thing"] (spManner K dM) := by
  refine F.ok sc_is_manner (fun vs H Q E h => ?_) (fun cdv A outer s H vs Q E hr h => ?_)
  · obtain ⟨x, b, rfl, _⟩ := h
    rfl
  · obtain ⟨x, b, rfl, hm, q⟩ := h
    refine ⟨_, (pss_one (ps_ret (pe_and (pe_callB call_isi (by rfl) z.isinstance (by decide +kernel) (pa_cons (pv 0) (pa_cons (pe_bltn (v := .ty "str") (by rfl) z.str (by decide +kernel) rfl) pa_nil))) (pe_one (pe_cmpR (op_in_kd M.D) (pv 0) (pe_glob (v := .ref dM) (by rfl) M.gm rfl) (by rfl)))))), ?_⟩
    rcases hm with ⟨m, rfl, rfl⟩ | ⟨y, rfl, ny, rfl⟩ | ⟨rfl, t, ty, kt⟩
    · obtain ⟨fm, fdm, h1, _⟩ := M.at_ m
      exact ⟨_, rfl, _, .ty "str", _, _, true, rfl, .ty _, .base (.str _), kit_ty (by decide +kernel), _, rfl, iteT ⟨_, rfl, _, _, rfl, rfl, h1, q⟩⟩
    · exact ⟨_, rfl, _, .ty "str", _, _, true, rfl, .ty _, .base (.str _), kit_ty (by decide +kernel), _, rfl, iteT ⟨_, rfl, _, _, rfl, rfl, ny, q⟩⟩
    · exact ⟨_, rfl, _, .ty "str", _, _, false, rfl, .ty _, ty, kit_ty kt, _, rfl, iteF q⟩
theorem sc_rounded : FnScope ["value", "manner", "top", "bottom", "rule"] ["value", "manner"] (defScope s_rounded) := ⟨rfl, rfl, rfl, by decide +kernel, rfl, by decide +kernel, by decide +kernel⟩
theorem ok_rounded {f : Addr} {fd : FuncData} {dvs : List V} {dM : Addr} {es : Array DictEntry} {n : Nat} (M : Mans P w K mg base dM es n) (F : FunD K "rounded" "rounded" (defArgs s_rounded) (defBody s_rounded) (defScope s_rounded) dvs [] f fd) (c_is_manner : Cal P w K mg base 1 "is_manner" ["thing"] (spManner K dM)) : FnOk P w K mg base CX0 3 f fd ["value", "manner"] (spRounded K) := by
  refine F.ok sc_rounded (fun vs H Q E h => ?_) (fun cdv A outer s H vs Q E hr h => ?_)
  · obtain ⟨a, m, t, b, rfl, _⟩ := h
    rfl
  · obtain ⟨a, m, t, b, rfl, ha, hb, ht, hl, q⟩ := h
    obtain ⟨fm, fdm, h1, hK, hB, hF⟩ := M.at_ m
    refine ⟨_, PSs.nox (pss_cons (ps_if (pt_not (pt_val (pe_cal c_is_manner hr (pa_cons (pv 1) pa_nil)))) (pss_one ps_never) pss_nil)
      (pss_cons (ps_asg (pv 0) (pg_tup (by rfl) (pgs_cons (pg_name (i := 2) sc_rounded.nd rfl (.inl rfl)) (pgs_cons (pg_name (i := 3) sc_rounded.nd rfl (.inl rfl)) pgs_nil))))
      (pss_cons (ps_set (i := 4) sc_rounded.nd rfl (.inl rfl) (pe_ix ix_kdict (pe_glob (v := .ref dM) (by rfl) M.gm rfl) (pv 1) (fun _ _ => rfl)))
      (pss_one (ps_ret (pe_callL (i := 4) hF hr rfl (Or.inl rfl) hK hB .nil pass0 (pa_cons (pv 2) (pa_cons (pv 3) pa_nil)))))))), ?_⟩
    refine ⟨_, rfl, _, true, rfl, .inl ⟨m, rfl, rfl⟩, _, rfl, iteF ?_⟩
    refine ⟨_, rfl, a, _, rfl, ha, rfl, _, _, rfl, _, _, rfl, rfl, ?_⟩
    refine ⟨_, rfl, dM, m.str, .ref fm, rfl, rfl, ⟨es, n, _, M.D.at_, M.D.lit, h1, rfl⟩, ?_⟩
    exact ⟨rfl, _, rfl, _, rfl, t, b, rfl, hb, ht, hl, q⟩
end
end E1

namespace E1
open PySem PySem.Spec PyProof.Rows L2

/-! ### objects: methods, making -/
def CalM (P : Program) (w : World) (K : PySem.W.Frag) (mg : Str → Option Value) (base : Heap) (k : Nat) (C : Addr) (m : Str) (ps : List Str) (sp : Sp) : Prop :=
  ∃ (f : Addr) (fd : FuncData), Meth K C m f ∧ Binds K fd ps [] ∧ FnOk P w K mg base CX0 k f fd ps sp
def CalMK (P : Program) (w : World) (K : PySem.W.Frag) (mg : Str → Option Value) (base : Heap) (k : Nat) (C : Addr) (m : Str) (ps ks : List Str) (gV : List V → List V → List V) (sp : Sp) : Prop :=
  ∃ (f : Addr) (fd : FuncData) (g : List Value → List Value → List Value), Meth K C m f ∧ KBn K fd ps 1 ks g gV ∧ FnOk P w K mg base CX0 k f fd ps sp
def CalC (P : Program) (w : World) (K : PySem.W.Frag) (mg : Str → Option Value) (base : Heap) (k : Nat) (x : Str) (C : Addr) (ps : List Str) (dvs : List V) (sp : Sp) : Prop :=
  ∃ (f : Addr) (fd : FuncData) (ds : List Value), Mk K C f ∧ mg x = some (.ref C) ∧ Vals dvs ds ∧ Binds K fd ps ds ∧ FnOk P w K mg base CX0 k f fd ps sp
section
variable {X : Cx} {k j : Nat} {C : Addr} {m x : Str} {ps ks : List Str} {dvs : List V} {sp : Sp} {o e : Expr} {es : List Expr} {ta : TE} {t tk : TA} {apos p pos : Pos} {gV : List V → List V → List V} {kws : List Keyword}
theorem pe_calm {pl : Sem Bool} (he : PE X o ta) (c : Cls X.K C) (h : CalM X.prog X.w X.K X.mg X.base k C m ps sp) (hr : Room j X.A) (ha : PA X (e :: es) t) (hle : k ≤ j := by decide)
    (hst : starEach (e :: es) X.env = (false, eval e X.env) :: starEach es X.env := by rfl) (hpl : (backTo pos (starEach es X.env)).any (·.1) = false := by rfl)
    (ht : eval (.Call (.Attribute o m apos) (e :: es) [] pos) X.env = (do
      let ov ← eval o X.env
      standAt apos.atName
      let (f, first) ← holding [ov] (getMethod ov m pl)
      callWith pos f first (backTo pos (starEach (e :: es) X.env)) (backToKw pos (keywordEach [] X.env))) := by rfl) :
    PE X (.Call (.Attribute o m apos) (e :: es) [] pos) (tMeth C m sp [] E0 ta t) := by
  obtain ⟨f, fd, h1, h2, h3⟩ := h
  exact pe_meth he c h1 h3 (hr.mono hle) h2 .nil pass0 ha hst hpl ht
theorem pe_calm0 {pl : Sem Bool} (he : PE X o ta) (c : Cls X.K C) (h : CalM X.prog X.w X.K X.mg X.base k C m ps sp) (hr : Room j X.A) (hle : k ≤ j := by decide)
    (ht : eval (.Call (.Attribute o m apos) [] [] pos) X.env = (do
      let ov ← eval o X.env
      standAt apos.atName
      let (f, first) ← holding [ov] (getMethod ov m pl)
      callWith pos f first (backTo pos (starEach [] X.env)) (backToKw pos (keywordEach [] X.env))) := by rfl) :
    PE X (.Call (.Attribute o m apos) [] [] pos) (tMeth C m sp [] E0 ta tNil) := by
  obtain ⟨f, fd, h1, h2, h3⟩ := h
  exact pe_meth0 he c h1 h3 (hr.mono hle) h2 .nil pass0 ht
def tMethK (C : Addr) (m : Str) (n : Nat) (sp : Sp) (gV : List V → List V → List V) (ta : TE) (tk : TA) : TE := fun σ H Q => ta σ H fun x H1 => ∃ a dx fs, x = .ref a ∧ H1 a = some (.ins C dx fs) ∧ fs.lookup m = none ∧
  tk σ H1 fun zs H2 => zs.length = n ∧ sp (gV [x] zs) H2 Q E0
theorem pe_calmk0 {pl : Sem Bool} (he : PE X o ta) (c : Cls X.K C) (h : CalMK X.prog X.w X.K X.mg X.base k C m ps ks gV sp) (hr : Room j X.A) (hkw : PK X kws tk) (hle : k ≤ j := by decide)
    (hall : (backToKw pos (keywordEach kws X.env)).all (·.1.isSome) = true := by rfl) (hks : (backToKw pos (keywordEach kws X.env)).filterMap (·.1) = ks := by rfl)
    (hpl : ((backTo pos (starEach [] X.env)).any (·.1) || (backToKw pos (keywordEach kws X.env)).any (·.1.isNone)) = false := by rfl)
    (ht : eval (.Call (.Attribute o m apos) [] kws pos) X.env = (do
      let ov ← eval o X.env
      standAt apos.atName
      let (f, first) ← holding [ov] (getMethod ov m pl)
      callWith pos f first (backTo pos (starEach [] X.env)) (backToKw pos (keywordEach kws X.env))) := by rfl) :
    PE X (.Call (.Attribute o m apos) [] kws pos) (tMethK C m ks.length sp gV ta tk) := by
  obtain ⟨f, fd, g, hm, hb, F⟩ := h
  refine ⟨fun pins s σ H Q I h => ?_⟩
  refine PySem.W.methodCall_KW (pl := pl) (thn (he.run pins s σ H _ I h) fun u s1 ⟨x, H1, I1, rx, a, dx, fs, ex, ea, l, q⟩ => ?_) ht
  subst ex
  obtain rfl : u = Value.ref a := rx
  refine getmeth_ok I1 ea c hm l ?_
  refine PySem.W.callWith_KW0 (first := [.ref a]) (h₀ := X.base) I.ok.mod.kin hm.kp hall (thn (hkw.run pos pins s1 σ H1 _ I1 q) fun ws s2 ⟨zs, H2, I2, rz, l2, q2⟩ => ⟨I2.kIn, ?_⟩) hpl
  rw [hks]
  exact run_fnN (vs := [.ref a]) (us := [.ref a]) F (hr.mono hle) hb pass0 I2 (.cons rfl .nil) rz rfl l2 q2
theorem pe_calc (h : CalC X.prog X.w X.K X.mg X.base k x C ps dvs sp) (hr : Room j X.A) (ha : PA X (e :: es) t) (hle : k + 1 ≤ j := by decide) (hg : Gl X x := by rfl)
    (hdb : (x == ("__debug__" : Str)) = false := by decide) (he : starEach (e :: es) X.env = (false, eval e X.env) :: starEach es X.env := by rfl) (hpl : (backTo pos (starEach es X.env)).any (·.1) = false := by rfl) :
    PE X (.Call (.Name x p) (e :: es) [] pos) (tMake C sp dvs E0 t) := by
  obtain ⟨f, fd, ds, h1, h2, h3, h4, h5⟩ := h
  exact pe_make h1 h5 (hr.mono hle) hg h2 h4 h3 pass0 ha hdb he hpl
end
/-! ### forms -/
def wV : Option Int → V
  | none => .non
  | some w => .int w
def endS : Bool → Str
  | true => "stop"
  | false => "wrap"
def flds (w : Option Int) (pt : Int) (m : Mn) (st : Bool) : List (Str × V) := [("width", wV w), ("point", .int pt), ("manner", .str m.str), ("ends", .str (endS st))]
def WOk (w : Option Int) : Prop := ∀ x, w = some x → 2 ≤ x ∧ x ≤ 64
structure FormAt (C : Addr) (H : Hp) (p : Addr) (w : Option Int) (pt : Int) (m : Mn) (st : Bool) : Prop where
  ob : ∃ dx, H p = some (.ins C dx (flds w pt m st))
  wo : WOk w
  p0 : -64 ≤ pt
  p1 : pt ≤ 64
theorem FormAt.same {C : Addr} {H H' : Hp} {p : Addr} {w : Option Int} {pt : Int} {m : Mn} {st : Bool} (f : FormAt C H p w pt m st) (s : Same H H') : FormAt C H' p w pt m st := by
  obtain ⟨⟨dx, h⟩, a, b, c⟩ := f
  exact ⟨⟨dx, s _ _ h⟩, a, b, c⟩
theorem nPW : (("point" : Str) == "width") = false := by decide +kernel
theorem nMW : (("manner" : Str) == "width") = false := by decide +kernel
theorem nMP : (("manner" : Str) == "point") = false := by decide +kernel
theorem nEW : (("ends" : Str) == "width") = false := by decide +kernel
theorem nEP : (("ends" : Str) == "point") = false := by decide +kernel
theorem nEM : (("ends" : Str) == "manner") = false := by decide +kernel
section
variable {w : Option Int} {pt : Int} {m : Mn} {st : Bool}
theorem fl_w : (flds w pt m st).lookup ("width" : Str) = some (wV w) := by
  unfold flds
  rw [List.lookup_cons, beq_self_eq_true]
theorem fl_p : (flds w pt m st).lookup ("point" : Str) = some (.int pt) := by
  unfold flds
  rw [List.lookup_cons, nPW, List.lookup_cons, beq_self_eq_true]
theorem fl_m : (flds w pt m st).lookup ("manner" : Str) = some (.str m.str) := by
  unfold flds
  rw [List.lookup_cons, nMW, List.lookup_cons, nMP, List.lookup_cons, beq_self_eq_true]
theorem fl_e : (flds w pt m st).lookup ("ends" : Str) = some (.str (endS st)) := by
  unfold flds
  rw [List.lookup_cons, nEW, List.lookup_cons, nEP, List.lookup_cons, nEM, List.lookup_cons, beq_self_eq_true]
theorem fl_no {x : Str} (h : [(x == "width"), (x == "point"), (x == "manner"), (x == "ends")] = [false, false, false, false]) : (flds w pt m st).lookup x = none := by
  have h1 : (x == "width") = false := (List.cons.inj h).1
  have h2 : (x == "point") = false := (List.cons.inj (List.cons.inj h).2).1
  have h3 : (x == "manner") = false := (List.cons.inj (List.cons.inj (List.cons.inj h).2).2).1
  have h4 : (x == "ends") = false := (List.cons.inj (List.cons.inj (List.cons.inj (List.cons.inj h).2).2).2).1
  unfold flds
  rw [List.lookup_cons, h1, List.lookup_cons, h2, List.lookup_cons, h3, List.lookup_cons, h4]
  rfl
theorem ne_of_beq {a b : Str} (h : (b == a) = false) : ¬ a = b := fun e => by
  rw [e, beq_self_eq_true] at h
  cases h
theorem fl_put {a b c d : V} : putF "ends" d (putF "manner" c (putF "point" b (putF "width" a []))) = [(("width" : Str), a), ("point", b), ("manner", c), ("ends", d)] := by
  simp only [putF, if_neg (ne_of_beq nPW), if_neg (ne_of_beq nMW), if_neg (ne_of_beq nMP), if_neg (ne_of_beq nEW), if_neg (ne_of_beq nEP), if_neg (ne_of_beq nEM)]
end
/-- what the walk asks of the class and of the module's constants -/
structure FTxt (K : PySem.W.Frag) (mg : Str → Option Value) (C : Addr) : Prop where
  cl : Cls K C
  nW : NoAttr K C "width"
  nP : NoAttr K C "point"
  nM : NoAttr K C "manner"
  nE : NoAttr K C "ends"
structure FCst (K : PySem.W.Frag) (mg : Str → Option Value) (aE : Addr) : Prop where
  lw : ∃ t, mg "LEAST_WIDTH" = some (.int 2 t)
  gw : ∃ t, mg "GREATEST_WIDTH" = some (.int 64 t)
  gp : ∃ t, mg "GREATEST_POINT" = some (.int 64 t)
  e : mg "ENDS" = some (.ref aE)
  eT : ∀ H, SqT K H aE [.str "wrap", .str "stop"]
def two (n : Int) : Int := 2 ^ n.toNat
def lst (x : Int) : Int := -(two (x - 1))
def grt (x : Int) : Int := two (x - 1) - 1
def lstV : Option Int → V
  | none => .non
  | some x => .int (lst x)
def grtV : Option Int → V
  | none => .non
  | some x => .int (grt x)
def inR : Option Int → Int → Bool
  | none, _ => true
  | some x, n => decide (lst x ≤ n) && decide (n ≤ grt x)
def nearB : Mn → Bool
  | .half => true
  | .even => true
  | .far => true
  | _ => false
/-- the word as which a whole number of steps is kept -/
def wordF (w : Option Int) (st : Bool) (n : Int) : Int := match w with
  | none => n
  | some x => if inR (some x) n = true then n else if st = true then (if n < 0 then lst x else grt x) else (n - lst x) % two x + lst x
def spWidth : Sp := fun vs H Q _ => ∃ w : Option Int, vs = [wV w] ∧ WOk w ∧ Q (.bl true) H
def spPoint : Sp := fun vs H Q _ => ∃ p : Int, vs = [.int p] ∧ -64 ≤ p ∧ p ≤ 64 ∧ Q (.bl true) H
def spEnds : Sp := fun vs H Q _ => ∃ st : Bool, vs = [.str (endS st)] ∧ Q (.bl true) H
def spInit (C : Addr) : Sp := fun vs H Q _ => ∃ (p dx : Addr) (w : Option Int) (pt : Int) (m : Mn) (st : Bool), vs = [.ref p, wV w, .int pt, .str m.str, .str (endS st)] ∧ WOk w ∧ -64 ≤ pt ∧ pt ≤ 64 ∧ H p = some (.ins C dx []) ∧
  ∀ H', FormAt C H' p w pt m st → (∀ b o, b ≠ p → H b = some o → H' b = some o) → (∀ b, b ≠ p → H b = none → H' b = none) → Q .non H'
def spF (C : Addr) (r : Option Int → Int → Mn → Bool → Hp → VK → Prop) : Sp := fun vs H Q _ => ∃ (p : Addr) (w : Option Int) (pt : Int) (m : Mn) (st : Bool), vs = [.ref p] ∧ FormAt C H p w pt m st ∧ r w pt m st H Q
def spLeast (C : Addr) : Sp := spF C fun w _ _ _ H Q => Q (lstV w) H
def spGreatest (C : Addr) : Sp := spF C fun w _ _ _ H Q => Q (grtV w) H
def spStep (C : Addr) : Sp := spF C fun _ pt _ _ H Q => ∀ p, H p = none → Q (.ref p) (upd H p (.tup [.int (twoT (-pt)), .int (twoB (-pt))]))
def spSlack (C : Addr) : Sp := spF C fun _ _ m _ H Q => ∀ p, H p = none → Q (.ref p) (upd H p (.tup [.int 1, .int (if nearB m = true then 2 else 1)]))
def spHas (K : PySem.W.Frag) (C : Addr) : Sp := fun vs H Q _ => ∃ (p : Addr) (w : Option Int) (pt : Int) (m : Mn) (st : Bool) (x : V) (b : Bool), vs = [.ref p, x] ∧ FormAt C H p w pt m st ∧ ((∃ n, x = .int n ∧ b = inR w n) ∨ (WholeIs K H x false ∧ b = false)) ∧ Q (.bl b) H
def spWord (C : Addr) : Sp := fun vs H Q _ => ∃ (p : Addr) (w : Option Int) (pt : Int) (m : Mn) (st : Bool) (n : Int), vs = [.ref p, .int n] ∧ FormAt C H p w pt m st ∧ Q (.int (wordF w st n)) H
/-- how many steps a value is, rounded -/
def steps (pt : Int) (m : Mn) (t b : Int) : Int := m.f (lowT (t * twoB (-pt)) (b * twoT (-pt))) (lowB (t * twoB (-pt)) (b * twoT (-pt)))
def spKept (K : PySem.W.Frag) (C : Addr) : Sp := fun vs H Q _ => ∃ (p : Addr) (w : Option Int) (pt : Int) (m : Mn) (st : Bool) (a : Addr) (t b : Int), vs = [.ref p, .ref a] ∧ FormAt C H p w pt m st ∧ SqT K H a [.int t, .int b] ∧ 0 < b ∧ t.natAbs < 2 ^ 1500 ∧ b.natAbs < 2 ^ 1500 ∧
  ∀ (r : Addr) (H' : Hp), H r = none → Same H H' → H' r = some (.tup [.int (wordF w st (steps pt m t b)), .int (steps pt m t b - wordF w st (steps pt m t b))]) → Q (.ref r) H'
theorem two_pos (n : Int) : 0 < two n := by
  unfold two
  exact Int.pow_pos (by decide)
theorem twoT_pos (n : Int) : 0 < twoT n := by
  unfold twoT
  split
  · decide
  · exact Int.pow_pos (by decide)
theorem twoB_pos (n : Int) : 0 < twoB n := by
  unfold twoB
  split
  · exact Int.pow_pos (by decide)
  · decide
theorem two_lt {n : Int} {k : Nat} (h : n.toNat < k) : (2 ^ n.toNat : Int).natAbs < 2 ^ k := by
  rw [Int.natAbs_pow]
  exact Nat.pow_lt_pow_right (by decide) h
theorem twoT_lt {n : Int} (h1 : n ≤ 64) : (twoT n).natAbs < 2 ^ 65 := by
  unfold twoT
  split
  · decide
  · exact two_lt (by omega)
theorem twoB_lt {n : Int} (h1 : -64 ≤ n) : (twoB n).natAbs < 2 ^ 65 := by
  unfold twoB
  split
  · exact two_lt (by omega)
  · decide
theorem low_pos' {t b : Int} (hb : b ≠ 0) : 0 < lowB t b := by
  have g0 := gI_pos (t := t) hb
  have g1 := gI_le (t := t) hb
  have : 1 ≤ lowB t b := by
    unfold lowB
    refine (Int.le_ediv_iff_mul_le g0).mpr ?_
    split <;> omega
  omega
theorem lowT_le {t b : Int} : (lowT t b).natAbs ≤ t.natAbs := by
  unfold lowT
  refine Nat.le_trans (Int.natAbs_ediv_le_natAbs _ _) ?_
  split <;> omega
theorem lowB_le {t b : Int} : (lowB t b).natAbs ≤ b.natAbs := by
  unfold lowB
  refine Nat.le_trans (Int.natAbs_ediv_le_natAbs _ _) ?_
  split <;> omega
section
variable {P : Program} {w : World} {K : PySem.W.Frag} {mg : Str → Option Value} {base : Heap}
theorem sc_is_width : FnScope ["thing"] ["thing"] (defScope s_is_width) := ⟨rfl, rfl, rfl, by decide +kernel, rfl, by decide +kernel, by decide +kernel⟩
theorem ok_is_width {f : Addr} {fd : FuncData} {aE : Addr} (Z : FCst K mg aE) (F : Fun K "is_width" "is_width" s_is_width f fd) (c_is_whole : Cal P w K mg base 1 "is_whole" ["thing"] (spWhole K)) : FnOk P w K mg base CX0 2 f fd ["thing"] spWidth := by
  refine F.ok sc_is_width (fun vs H Q E h => ?_) (fun cdv A outer s H vs Q E hr h => ?_)
  · obtain ⟨w, rfl, _⟩ := h
    rfl
  · obtain ⟨w, rfl, hw, q⟩ := h
    obtain ⟨_, gLW⟩ := Z.lw
    obtain ⟨_, gGW⟩ := Z.gw
    refine ⟨_, (pss_one (ps_ret (pe_or (pe_cmpR op_isN (pv 0) pe_non (nomark _)) (pe_one (pe_and (pe_cal c_is_whole hr (pa_cons (pv 0) pa_nil)) (pe_one (pe_chain op_le op_le (pe_glob (v := .int 2) (by rfl) gLW ⟨_, rfl⟩) (pv 0) (pe_glob (v := .int 64) (by rfl) gGW ⟨_, rfl⟩)))))))), ?_⟩
    cases w with
    | none => exact ⟨_, rfl, rfl, _, rfl, iteT q⟩
    | some x =>
      obtain ⟨h1, h2⟩ := hw x rfl
      refine ⟨_, rfl, rfl, _, rfl, iteF ⟨_, rfl, _, _, rfl, .int x, _, rfl, iteT ⟨_, rfl, _, _, rfl, rfl, _, rfl, ?_⟩⟩⟩
      rw [decide_eq_true h1]
      refine iteT ⟨_, _, rfl, rfl, ?_⟩
      show Q (.bl (decide (x ≤ 64))) H
      rw [decide_eq_true h2]
      exact q
theorem sc_is_point : FnScope ["thing"] ["thing"] (defScope s_is_point) := ⟨rfl, rfl, rfl, by decide +kernel, rfl, by decide +kernel, by decide +kernel⟩
theorem ok_is_point {f : Addr} {fd : FuncData} {aE : Addr} (Z : FCst K mg aE) (F : Fun K "is_point" "is_point" s_is_point f fd) (z : Zs mg) (c_is_whole : Cal P w K mg base 1 "is_whole" ["thing"] (spWhole K)) : FnOk P w K mg base CX0 2 f fd ["thing"] spPoint := by
  refine F.ok sc_is_point (fun vs H Q E h => ?_) (fun cdv A outer s H vs Q E hr h => ?_)
  · obtain ⟨x, rfl, _⟩ := h
    rfl
  · obtain ⟨x, rfl, h1, h2, q⟩ := h
    obtain ⟨_, gGP⟩ := Z.gp
    refine ⟨_, (pss_one (ps_ret (pe_and (pe_cal c_is_whole hr (pa_cons (pv 0) pa_nil)) (pe_one (pe_cmpR op_le (pe_callB call_abs (by rfl) z.abs (by decide +kernel) (pa_cons (pv 0) pa_nil)) (pe_glob (v := .int 64) (by rfl) gGP ⟨_, rfl⟩) (nomark _)))))), ?_⟩
    refine ⟨_, rfl, _, _, rfl, .int x, _, rfl, iteT ⟨_, rfl, _, rfl, _, _, rfl, rfl, ?_⟩⟩
    show Q (.bl (decide ((if x < 0 then -x else x) ≤ 64))) H
    rw [decide_eq_true (show (if x < 0 then -x else x) ≤ 64 by split <;> omega)]
    exact q
theorem sc_is_ends : FnScope ["thing"] ["thing"] (defScope s_is_ends) := ⟨rfl, rfl, rfl, by decide +kernel, rfl, by decide +kernel, by decide +kernel⟩
theorem ok_is_ends {f : Addr} {fd : FuncData} {k : Nat} {aE : Addr} (Z : FCst K mg aE) (F : Fun K "is_ends" "is_ends" s_is_ends f fd) (z : Zs mg) : FnOk P w K mg base CX0 (k + 1) f fd ["thing"] spEnds := by
  refine F.ok sc_is_ends (fun vs H Q E h => ?_) (fun cdv A outer s H vs Q E hr h => ?_)
  · obtain ⟨st, rfl, _⟩ := h
    rfl
  · obtain ⟨st, rfl, q⟩ := h
    refine ⟨_, (pss_one (ps_ret (pe_and (pe_callB call_isi (by rfl) z.isinstance (by decide +kernel) (pa_cons (pv 0) (pa_cons (pe_bltn (v := .ty "str") (by rfl) z.str (by decide +kernel) rfl) pa_nil))) (pe_one (pe_cmpR op_in_seq (pv 0) (pe_glob (v := .ref aE) (by rfl) Z.e rfl) (by rfl)))))), ?_⟩
    refine ⟨_, rfl, _, .ty "str", _, _, true, rfl, .ty _, .base (.str _), kit_ty (by decide +kernel), _, rfl, iteT ⟨_, rfl, aE, _, rfl, .inr (Z.eT _), rfl, rfl, ?_⟩⟩
    cases st with
    | true =>
      rw [show inV (V.str (endS true)) [V.str "wrap", V.str "stop"] = true by decide +kernel]
      exact q
    | false =>
      rw [show inV (V.str (endS false)) [V.str "wrap", V.str "stop"] = true by decide +kernel]
      exact q
theorem sc_Form___init__ : FnScope ["self", "width", "point", "manner", "ends"] ["self", "width", "point", "manner", "ends"] (defScope s_Form___init__) := ⟨rfl, rfl, rfl, by decide +kernel, rfl, by decide +kernel, by decide +kernel⟩
theorem ok_Form___init__ {f : Addr} {fd : FuncData} {dM : Addr} {dvs : List V} {C : Addr} (T : FTxt K mg C) (F : FunD K "__init__" "Form.__init__" (defArgs s_Form___init__) (defBody s_Form___init__) (defScope s_Form___init__) dvs [] f fd) (c_is_width : Cal P w K mg base 2 "is_width" ["thing"] spWidth) (c_is_point : Cal P w K mg base 2 "is_point" ["thing"] spPoint) (c_is_manner : Cal P w K mg base 1 "is_manner" ["thing"] (spManner K dM)) (c_is_ends : Cal P w K mg base 1 "is_ends" ["thing"] spEnds) : FnOk P w K mg base CX0 3 f fd ["self", "width", "point", "manner", "ends"] (spInit C) := by
  refine F.ok sc_Form___init__ (fun vs H Q E h => ?_) (fun cdv A outer s H vs Q E hr h => ?_)
  · obtain ⟨p, dx, w, pt, m, st, rfl, _⟩ := h
    rfl
  · obtain ⟨p, dx, w, pt, m, st, rfl, hw, h0, h1, hp, q⟩ := h
    refine ⟨_, PSs.nox (pss_cons (ps_if (pt_not (pt_val (pe_cal c_is_width hr (pa_cons (pv 1) pa_nil)))) (pss_one ps_never) pss_nil)
      (pss_cons (ps_if (pt_not (pt_val (pe_cal c_is_point hr (pa_cons (pv 2) pa_nil)))) (pss_one ps_never) pss_nil)
      (pss_cons (ps_if (pt_not (pt_val (pe_cal c_is_manner hr (pa_cons (pv 3) pa_nil)))) (pss_one ps_never) pss_nil)
      (pss_cons (ps_if (pt_not (pt_val (pe_cal c_is_ends hr (pa_cons (pv 4) pa_nil)))) (pss_one ps_never) pss_nil)
      (pss_cons (ps_fld (pv 0) (pv 1) rfl)
      (pss_cons (ps_fld (pv 0) (pv 2) rfl)
      (pss_cons (ps_fld (pv 0) (pv 3) rfl)
      (pss_one (ps_fld (pv 0) (pv 4) rfl))))))))), ?_⟩
    refine ⟨_, rfl, w, rfl, hw, _, rfl, iteF ?_⟩
    refine ⟨_, rfl, pt, rfl, h0, h1, _, rfl, iteF ?_⟩
    refine ⟨_, rfl, _, true, rfl, .inl ⟨m, rfl, rfl⟩, _, rfl, iteF ?_⟩
    refine ⟨_, rfl, st, rfl, _, rfl, iteF ?_⟩
    refine ⟨_, rfl, _, rfl, p, C, dx, [], rfl, hp, T.cl, T.nW, (by show 0 < 1000; decide), ?_⟩
    refine ⟨_, rfl, _, rfl, p, C, dx, _, rfl, upd_same, T.cl, T.nP, (by show 1 < 1000; decide), ?_⟩
    refine ⟨_, rfl, _, rfl, p, C, dx, _, rfl, upd_same, T.cl, T.nM, ?_, ?_⟩
    · simp only [putF, if_neg (ne_of_beq nPW)]
      show 2 < 1000
      decide
    refine ⟨_, rfl, _, rfl, p, C, dx, _, rfl, upd_same, T.cl, T.nE, ?_, ?_⟩
    · simp only [putF, if_neg (ne_of_beq nPW), if_neg (ne_of_beq nMW), if_neg (ne_of_beq nMP)]
      show 3 < 1000
      decide
    refine q _ ⟨⟨dx, ?_⟩, hw, h0, h1⟩ (fun b o hb e => ?_) (fun b hb e => ?_)
    · rw [upd_same]
      exact congrArg (fun l => some (HO.ins C dx l)) fl_put
    · rw [upd_ne hb, upd_ne hb, upd_ne hb, upd_ne hb]
      exact e
    · rw [upd_ne hb, upd_ne hb, upd_ne hb, upd_ne hb]
      exact e
theorem sc_Form_least : FnScope ["self"] ["self"] (defScope s_Form_least) := ⟨rfl, rfl, rfl, by decide +kernel, rfl, by decide +kernel, by decide +kernel⟩
theorem ok_Form_least {f : Addr} {fd : FuncData} {k : Nat} {C : Addr} (T : FTxt K mg C) (F : Fun K "least" "Form.least" s_Form_least f fd) : FnOk P w K mg base CX0 (k + 1) f fd ["self"] (spLeast C) := by
  refine F.ok sc_Form_least (fun vs H Q E h => ?_) (fun cdv A outer s H vs Q E hr h => ?_)
  · obtain ⟨p, w, pt, m, st, rfl, _⟩ := h
    rfl
  · obtain ⟨p, w, pt, m, st, rfl, ⟨⟨dx, ho⟩, hw, _, _⟩, q⟩ := h
    refine ⟨_, (pss_one (ps_ret (pe_ifExp (pt_cmpR op_isN (pe_fld (pv 0) rfl) pe_non (nomark _)) pe_non (pe_un un_neg (pe_op op_shl pe_int (pe_op op_sub (pe_fld (pv 0) rfl) pe_int)))))), ?_⟩
    refine ⟨_, rfl, p, C, dx, _, _, rfl, ho, T.cl, T.nW, fl_w, rfl, _, rfl, ?_⟩
    cases w with
    | none => exact iteT q
    | some x =>
      obtain ⟨h1, h2⟩ := hw x rfl
      refine iteF ⟨_, rfl, p, C, dx, _, _, rfl, ho, T.cl, T.nW, fl_w, _, _, rfl, rfl, _, _, rfl, rfl, ⟨by omega, by omega, by decide⟩, _, rfl, ?_⟩
      have e : (1 : Int) * 2 ^ (x - 1).toNat = two (x - 1) := Int.one_mul _
      rw [e]
      exact q
theorem sc_Form_greatest : FnScope ["self"] ["self"] (defScope s_Form_greatest) := ⟨rfl, rfl, rfl, by decide +kernel, rfl, by decide +kernel, by decide +kernel⟩
theorem ok_Form_greatest {f : Addr} {fd : FuncData} {k : Nat} {C : Addr} (T : FTxt K mg C) (F : Fun K "greatest" "Form.greatest" s_Form_greatest f fd) : FnOk P w K mg base CX0 (k + 1) f fd ["self"] (spGreatest C) := by
  refine F.ok sc_Form_greatest (fun vs H Q E h => ?_) (fun cdv A outer s H vs Q E hr h => ?_)
  · obtain ⟨p, w, pt, m, st, rfl, _⟩ := h
    rfl
  · obtain ⟨p, w, pt, m, st, rfl, ⟨⟨dx, ho⟩, hw, _, _⟩, q⟩ := h
    refine ⟨_, (pss_one (ps_ret (pe_ifExp (pt_cmpR op_isN (pe_fld (pv 0) rfl) pe_non (nomark _)) pe_non (pe_op op_sub (pe_op op_shl pe_int (pe_op op_sub (pe_fld (pv 0) rfl) pe_int)) pe_int)))), ?_⟩
    refine ⟨_, rfl, p, C, dx, _, _, rfl, ho, T.cl, T.nW, fl_w, rfl, _, rfl, ?_⟩
    cases w with
    | none => exact iteT q
    | some x =>
      obtain ⟨h1, h2⟩ := hw x rfl
      refine iteF ⟨_, rfl, p, C, dx, _, _, rfl, ho, T.cl, T.nW, fl_w, _, _, rfl, rfl, _, _, rfl, rfl, ⟨by omega, by omega, by decide⟩, _, _, rfl, rfl, ?_⟩
      have e : (1 : Int) * 2 ^ (x - 1).toNat = two (x - 1) := Int.one_mul _
      rw [e]
      exact q
theorem sc_Form_has : FnScope ["self", "thing"] ["self", "thing"] (defScope s_Form_has) := ⟨rfl, rfl, rfl, by decide +kernel, rfl, by decide +kernel, by decide +kernel⟩
theorem ok_Form_has {f : Addr} {fd : FuncData} {C : Addr} (T : FTxt K mg C) (F : Fun K "has" "Form.has" s_Form_has f fd) (c_is_whole : Cal P w K mg base 1 "is_whole" ["thing"] (spWhole K)) (m_least : CalM P w K mg base 1 C "least" ["self"] (spLeast C)) (m_greatest : CalM P w K mg base 1 C "greatest" ["self"] (spGreatest C)) : FnOk P w K mg base CX0 2 f fd ["self", "thing"] (spHas K C) := by
  refine F.ok sc_Form_has (fun vs H Q E h => ?_) (fun cdv A outer s H vs Q E hr h => ?_)
  · obtain ⟨p, w, pt, m, st, x, b, rfl, _⟩ := h
    rfl
  · obtain ⟨p, w, pt, m, st, x, b, rfl, hf, hx, q⟩ := h
    obtain ⟨⟨dx, ho⟩, hw, _, _⟩ := id hf
    refine ⟨_, (pss_cons (ps_if (pt_not (pt_val (pe_cal c_is_whole hr (pa_cons (pv 1) pa_nil)))) (pss_one (ps_ret pe_bl)) pss_nil)
      (pss_one (ps_ret (pe_or (pe_cmpR op_isN (pe_fld (pv 0) rfl) pe_non (nomark _)) (pe_one (pe_chain op_le op_le (pe_calm0 (pv 0) T.cl m_least hr) (pv 1) (pe_calm0 (pv 0) T.cl m_greatest hr))))))), ?_⟩
    rcases hx with ⟨n, rfl, rfl⟩ | ⟨hx, rfl⟩
    · refine ⟨_, rfl, _, true, rfl, .int n, _, rfl, iteF ?_⟩
      refine ⟨_, rfl, p, C, dx, _, _, rfl, ho, T.cl, T.nW, fl_w, rfl, _, rfl, ?_⟩
      cases w with
      | none => exact iteT q
      | some y =>
        refine iteF ⟨_, rfl, p, dx, _, rfl, ho, fl_no (by decide +kernel), p, some y, pt, m, st, rfl, hf, _, rfl, _, _, rfl, rfl, _, rfl, ?_⟩
        by_cases c : lst y ≤ n
        · rw [decide_eq_true c]
          refine iteT ⟨_, rfl, p, dx, _, rfl, ho, fl_no (by decide +kernel), p, some y, pt, m, st, rfl, hf, _, _, rfl, rfl, ?_⟩
          have q' : Q (.bl (decide (lst y ≤ n) && decide (n ≤ grt y))) H := q
          rw [decide_eq_true c, Bool.true_and] at q'
          exact q'
        · rw [decide_eq_false c]
          refine iteF ?_
          have q' : Q (.bl (decide (lst y ≤ n) && decide (n ≤ grt y))) H := q
          rw [decide_eq_false c, Bool.false_and] at q'
          exact q'
    · exact ⟨_, rfl, _, false, rfl, hx, _, rfl, iteT q⟩
theorem sc_Form_step : FnScope ["self"] ["self"] (defScope s_Form_step) := ⟨rfl, rfl, rfl, by decide +kernel, rfl, by decide +kernel, by decide +kernel⟩
theorem ok_Form_step {f : Addr} {fd : FuncData} {C : Addr} (T : FTxt K mg C) (F : Fun K "step" "Form.step" s_Form_step f fd) (c_two_to : Cal P w K mg base 2 "two_to" ["many"] spTwoTo) : FnOk P w K mg base CX0 3 f fd ["self"] (spStep C) := by
  refine F.ok sc_Form_step (fun vs H Q E h => ?_) (fun cdv A outer s H vs Q E hr h => ?_)
  · obtain ⟨p, w, pt, m, st, rfl, _⟩ := h
    rfl
  · obtain ⟨p, w, pt, m, st, rfl, ⟨⟨dx, ho⟩, hw, h0, h1⟩, q⟩ := h
    refine ⟨_, (pss_one (ps_ret (pe_cal c_two_to hr (pa_cons (pe_un un_neg (pe_fld (pv 0) rfl)) pa_nil)))), ?_⟩
    exact ⟨_, rfl, p, C, dx, _, _, rfl, ho, T.cl, T.nP, fl_p, _, rfl, -pt, rfl, by omega, by omega, q⟩
theorem sc_Form_word_for : FnScope ["self", "number"] ["self", "number"] (defScope s_Form_word_for) := ⟨rfl, rfl, rfl, by decide +kernel, rfl, by decide +kernel, by decide +kernel⟩
theorem ok_Form_word_for {f : Addr} {fd : FuncData} {C : Addr} (T : FTxt K mg C) (F : Fun K "word_for" "Form.word_for" s_Form_word_for f fd) (m_has : CalM P w K mg base 2 C "has" ["self", "thing"] (spHas K C)) (m_least : CalM P w K mg base 1 C "least" ["self"] (spLeast C)) (m_greatest : CalM P w K mg base 1 C "greatest" ["self"] (spGreatest C)) : FnOk P w K mg base CX0 3 f fd ["self", "number"] (spWord C) := by
  refine F.ok sc_Form_word_for (fun vs H Q E h => ?_) (fun cdv A outer s H vs Q E hr h => ?_)
  · obtain ⟨p, w, pt, m, st, n, rfl, _⟩ := h
    rfl
  · obtain ⟨p, w, pt, m, st, n, rfl, hf, q⟩ := h
    obtain ⟨⟨dx, ho⟩, hw, _, _⟩ := id hf
    refine ⟨_, (pss_cons (ps_if (pt_val (pe_calm (pv 0) T.cl m_has hr (pa_cons (pv 1) pa_nil))) (pss_one (ps_ret (pv 1))) pss_nil)
      (pss_cons (ps_if (pt_cmpR op_eq (pe_fld (pv 0) rfl) pe_str (nomark _)) (pss_one (ps_ret (pe_ifExp (pt_cmpR op_lt (pv 1) pe_int (nomark _)) (pe_calm0 (pv 0) T.cl m_least hr) (pe_calm0 (pv 0) T.cl m_greatest hr)))) pss_nil)
      (pss_one (ps_ret (pe_op op_add (pe_op op_mod (pe_op op_sub (pv 1) (pe_calm0 (pv 0) T.cl m_least hr)) (pe_op op_shl pe_int (pe_fld (pv 0) rfl))) (pe_calm0 (pv 0) T.cl m_least hr)))))), ?_⟩
    refine ⟨_, rfl, p, dx, _, rfl, ho, fl_no (by decide +kernel), _, rfl, p, w, pt, m, st, .int n, _, rfl, hf, .inl ⟨n, rfl, rfl⟩, _, rfl, ?_⟩
    cases w with
    | none => exact iteT ⟨_, rfl, q⟩
    | some y =>
      obtain ⟨y0, y1⟩ := hw y rfl
      replace q : Q (.int (if inR (some y) n = true then n else if st = true then (if n < 0 then lst y else grt y) else (n - lst y) % two y + lst y)) H := q
      cases hi : inR (some y) n with
      | true =>
        rw [hi] at q
        exact iteT ⟨_, rfl, q⟩
      | false =>
        rw [hi] at q
        refine iteF ?_
        cases st with
        | true =>
          refine ⟨_, rfl, p, C, dx, _, _, rfl, ho, T.cl, T.nE, fl_e, rfl, _, rfl, ?_⟩
          rw [decide_eq_true (show V.str (endS true) = V.str "stop" from rfl)]
          refine iteT ⟨_, rfl, _, _, rfl, rfl, _, rfl, ite2 (fun c => ?_) (fun c => ?_)⟩
          · have hc : n < 0 := toB c
            refine ⟨_, rfl, p, dx, _, rfl, ho, fl_no (by decide +kernel), p, some y, pt, m, true, rfl, hf, ?_⟩
            simp only [if_pos hc, if_neg Bool.false_ne_true, if_pos] at q
            exact q
          · have hc : ¬ n < 0 := toNB c
            refine ⟨_, rfl, p, dx, _, rfl, ho, fl_no (by decide +kernel), p, some y, pt, m, true, rfl, hf, ?_⟩
            simp only [if_neg hc, if_neg Bool.false_ne_true, if_pos] at q
            exact q
        | false =>
          refine ⟨_, rfl, p, C, dx, _, _, rfl, ho, T.cl, T.nE, fl_e, rfl, _, rfl, ?_⟩
          rw [decide_eq_false (show ¬ V.str (endS false) = V.str "stop" by intro z; exact absurd (V.str.inj z) (by decide +kernel))]
          have e2 : (1 : Int) * 2 ^ y.toNat = two y := Int.one_mul _
          refine iteF ⟨_, rfl, _, rfl, p, dx, _, rfl, ho, fl_no (by decide +kernel), p, some y, pt, m, false, rfl, hf, _, _, rfl, rfl, _, rfl, p, C, dx, _, _, rfl, ho, T.cl, T.nW, fl_w, _, _, rfl, rfl, ⟨by omega, by omega, by decide⟩, _, _, rfl, rfl, ?_, _, rfl, p, dx, _, rfl, ho, fl_no (by decide +kernel), p, some y, pt, m, false, rfl, hf, _, _, rfl, rfl, ?_⟩
          · show 0 < (1 : Int) * 2 ^ y.toNat
            rw [e2]
            exact two_pos y
          · rw [e2]
            simp only [if_neg Bool.false_ne_true] at q
            exact q
end
end E1

namespace E1
open PySem PySem.Spec PyProof.Rows L2
/-! ### nets: rows, holds, forms, points -/
/-- a new object, its heap named -/
theorem upd_gen {H G : Hp} {p : Addr} {o : HO} (e : upd H p o = G) (hp : H p = none) : Same H G ∧ G p = some o := by
  subst e
  exact ⟨same_new hp, upd_same⟩
theorem Same.sqL {K : PySem.W.Frag} {H H' : Hp} {a : Addr} {xs : List V} (e : Same H H') (h : SqL K H a xs) : SqL K H' a xs := by
  rcases h with (h | ⟨o, h⟩) | h
  · exact .inl (.inl (e _ _ h))
  · exact .inl (.inr ⟨o, e _ _ h⟩)
  · exact .inr h
theorem iteC {c d : Bool} {A B : Prop} (e : c = d) (h : if d = true then A else B) : if c = true then A else B := by
  rw [e]
  exact h
theorem sl_le {n : Nat} (h : n ≤ 100000) : n ≤ sizeLine := Nat.le_trans h (by decide)
theorem sl_lt {n : Nat} (h : n ≤ 100000) : n < sizeLine := Nat.lt_of_le_of_lt h (by decide)
inductive Row where
  | inn
  | old (k : Nat)
  | times (f : Int) (m a : Nat)
  | plus (a b : Nat)
  | less (a b : Nat)
  | move (m : Int) (a : Nat)
  | keep (f a : Nat)
inductive Kd7 where
  | inn | old | times | plus | less | move | keep
def Row.kd : Row → Kd7
  | .inn => .inn
  | .old _ => .old
  | .times _ _ _ => .times
  | .plus _ _ => .plus
  | .less _ _ => .less
  | .move _ _ => .move
  | .keep _ _ => .keep
def Kd7.s : Kd7 → Str
  | .inn => "in"
  | .old => "old"
  | .times => "times"
  | .plus => "plus"
  | .less => "less"
  | .move => "move"
  | .keep => "keep"
def Kd7.n : Kd7 → Nat
  | .inn => 1
  | .old => 2
  | .times => 4
  | .plus => 3
  | .less => 3
  | .move => 3
  | .keep => 3
def Row.vs : Row → List V
  | .inn => [.str "in"]
  | .old k => [.str "old", .int k]
  | .times f m a => [.str "times", .int f, .int m, .int a]
  | .plus a b => [.str "plus", .int a, .int b]
  | .less a b => [.str "less", .int a, .int b]
  | .move m a => [.str "move", .int m, .int a]
  | .keep f a => [.str "keep", .int f, .int a]
theorem Row.vs0 (r : Row) : r.vs[0]? = some (.str r.kd.s) := by cases r <;> rfl
theorem Row.vs_len (r : Row) : r.vs.length = r.kd.n := by cases r <;> rfl
/-- tuples that lie at the things of a list -/
inductive TsAt (H : Hp) : List V → List (List V) → Prop where
  | nil : TsAt H [] []
  | cons {p : Addr} {xs : List V} {vs : List V} {xss : List (List V)} (e : H p = some (.tup xs)) (r : TsAt H vs xss) : TsAt H (.ref p :: vs) (xs :: xss)
theorem TsAt.mono {H H' : Hp} {vs : List V} {xss : List (List V)} (h : TsAt H vs xss) (k : ∀ p xs, H p = some (.tup xs) → H' p = some (.tup xs)) : TsAt H' vs xss := by
  induction h with
  | nil => exact .nil
  | cons e _ ih => exact .cons (k _ _ e) ih
theorem TsAt.same {H H' : Hp} {vs : List V} {xss : List (List V)} (h : TsAt H vs xss) (s : Same H H') : TsAt H' vs xss := h.mono fun _ _ e => s _ _ e
theorem TsAt.len {H : Hp} {vs : List V} {xss : List (List V)} (h : TsAt H vs xss) : vs.length = xss.length := by
  induction h with
  | nil => rfl
  | cons _ _ ih => rw [List.length_cons, List.length_cons, ih]
theorem TsAt.get {H : Hp} {vs : List V} {xss : List (List V)} (h : TsAt H vs xss) : ∀ {i : Nat} {v : V}, vs[i]? = some v → ∃ p xs, v = .ref p ∧ xss[i]? = some xs ∧ H p = some (.tup xs) := by
  induction h with
  | nil => intro i v z; cases z
  | cons e _ ih =>
    intro i v z
    cases i with
    | zero =>
      cases z
      exact ⟨_, _, rfl, rfl, e⟩
    | succ i => exact ih z
theorem TsAt.at {H : Hp} {vs : List V} {xss : List (List V)} (h : TsAt H vs xss) : ∀ {i : Nat} {xs : List V}, xss[i]? = some xs → ∃ p, vs[i]? = some (.ref p) ∧ H p = some (.tup xs) := by
  induction h with
  | nil => intro i v z; cases z
  | cons e _ ih =>
    intro i v z
    cases i with
    | zero =>
      cases z
      exact ⟨_, rfl, e⟩
    | succ i => exact ih z
theorem TsAt.app {H : Hp} {vs ws : List V} {xss yss : List (List V)} (h : TsAt H vs xss) (g : TsAt H ws yss) : TsAt H (vs ++ ws) (xss ++ yss) := by
  induction h with
  | nil => exact g
  | cons e _ ih => exact .cons e ih
/-- a list of tuples in the heap -/
def TL7 (H : Hp) (a : Addr) (xss : List (List V)) : Prop := ∃ vs, H a = some (.lst vs) ∧ TsAt H vs xss
theorem TL7.same {H H' : Hp} {a : Addr} {xss : List (List V)} (h : TL7 H a xss) (s : Same H H') : TL7 H' a xss := by
  obtain ⟨vs, e, t⟩ := h
  exact ⟨vs, s _ _ e, t.same s⟩
/-- but for another list -/
theorem TsAt.but {H H' : Hp} {a : Addr} {ys : List V} {vs : List V} {xss : List (List V)} (h : TsAt H vs xss) (s : SameBut a H H') (ha : H a = some (.lst ys)) : TsAt H' vs xss := h.mono fun p xs e => s p _ (ne_of e ha (fun z => nomatch z)) e
theorem TL7.but {H H' : Hp} {a b : Addr} {ys : List V} {xss : List (List V)} (h : TL7 H a xss) (s : SameBut b H H') (hb : H b = some (.lst ys)) (n : a ≠ b) : TL7 H' a xss := by
  obtain ⟨vs, e, t⟩ := h
  exact ⟨vs, s _ _ n e, t.but s hb⟩
structure FormP where
  w : Option Int
  pt : Int
  m : Mn
  st : Bool
def FormP.vs (f : FormP) : List V := [wV f.w, .int f.pt, .str f.m.str, .str (endS f.st)]
structure FormP.Ok (f : FormP) : Prop where
  wo : WOk f.w
  p0 : -64 ≤ f.pt
  p1 : f.pt ≤ 64
abbrev FAt (C : Addr) (H : Hp) (p : Addr) (f : FormP) : Prop := FormAt C H p f.w f.pt f.m f.st
/-- forms that are the things of a list -/
inductive FsAt (C : Addr) (H : Hp) : List V → List FormP → Prop where
  | nil : FsAt C H [] []
  | cons {p : Addr} {f : FormP} {vs : List V} {fs : List FormP} (e : FAt C H p f) (r : FsAt C H vs fs) : FsAt C H (.ref p :: vs) (f :: fs)
theorem FsAt.same {C : Addr} {H H' : Hp} {vs : List V} {fs : List FormP} (h : FsAt C H vs fs) (s : Same H H') : FsAt C H' vs fs := by
  induction h with
  | nil => exact .nil
  | cons e _ ih => exact .cons (FormAt.same e s) ih
theorem FsAt.len {C : Addr} {H : Hp} {vs : List V} {fs : List FormP} (h : FsAt C H vs fs) : vs.length = fs.length := by
  induction h with
  | nil => rfl
  | cons _ _ ih => rw [List.length_cons, List.length_cons, ih]
theorem FsAt.get {C : Addr} {H : Hp} {vs : List V} {fs : List FormP} (h : FsAt C H vs fs) : ∀ {i : Nat} {v : V}, vs[i]? = some v → ∃ p f, v = .ref p ∧ fs[i]? = some f ∧ FAt C H p f := by
  induction h with
  | nil => intro i v z; cases z
  | cons e _ ih =>
    intro i v z
    cases i with
    | zero =>
      cases z
      exact ⟨_, _, rfl, rfl, e⟩
    | succ i => exact ih z
theorem FsAt.at {C : Addr} {H : Hp} {vs : List V} {fs : List FormP} (h : FsAt C H vs fs) : ∀ {i : Nat} {f : FormP}, fs[i]? = some f → ∃ p, vs[i]? = some (.ref p) ∧ FAt C H p f := by
  induction h with
  | nil => intro i v z; cases z
  | cons e _ ih =>
    intro i v z
    cases i with
    | zero =>
      cases z
      exact ⟨_, rfl, e⟩
    | succ i => exact ih z
theorem FsAt.app {C : Addr} {H : Hp} {vs ws : List V} {fs gs : List FormP} (h : FsAt C H vs fs) (g : FsAt C H ws gs) : FsAt C H (vs ++ ws) (fs ++ gs) := by
  induction h with
  | nil => exact g
  | cons e _ ih => exact .cons e ih
structure Hold where
  k : Nat
  s : Int
  l : Nat
def Hold.vs (h : Hold) : List V := [.int h.k, .int h.s, .int h.l]
structure NetP where
  fs : List FormP
  en : Nat
  rows : List Row
  holds : List Hold
  out : Nat
def fpt (fs : List FormP) (k : Nat) : Int := ((fs.map (·.pt)).getD k 0)
def hpts (n : NetP) : List Int := n.holds.map fun h => fpt n.fs h.k
/-- a row's point, from the points ahead -/
def rowPt (en : Int) (hp fp pts : List Int) : Row → Int
  | .inn => en
  | .old k => hp.getD k 0
  | .times _ m a => pts.getD a 0 + m
  | .plus a b => let x := pts.getD a 0; let y := pts.getD b 0; if y > x then y else x
  | .less a b => let x := pts.getD a 0; let y := pts.getD b 0; if y > x then y else x
  | .move m a => pts.getD a 0 - m
  | .keep f _ => fp.getD f 0
def ptsOf (en : Int) (hp fp : List Int) (rows : List Row) : List Int := rows.foldl (fun pts r => pts ++ [rowPt en hp fp pts r]) []
def NetP.pts (n : NetP) : List Int := ptsOf (fpt n.fs n.en) (hpts n) (n.fs.map (·.pt)) n.rows
theorem ptsOf_snoc (en : Int) (hp fp : List Int) (rows : List Row) (r : Row) : ptsOf en hp fp (rows ++ [r]) = ptsOf en hp fp rows ++ [rowPt en hp fp (ptsOf en hp fp rows) r] := by
  unfold ptsOf
  rw [List.foldl_append]
  rfl
theorem ptsOf_len (en : Int) (hp fp : List Int) (rows : List Row) : (ptsOf en hp fp rows).length = rows.length := by
  have key : ∀ (rows : List Row) (acc : List Int), (rows.foldl (fun pts r => pts ++ [rowPt en hp fp pts r]) acc).length = acc.length + rows.length := by
    intro rows
    induction rows with
    | nil => intro acc; rfl
    | cons r rs ih =>
      intro acc
      rw [List.foldl_cons, ih]
      simp only [List.length_append, List.length_cons, List.length_nil]
      omega
  have := key rows []
  rw [List.length_nil] at this
  unfold ptsOf
  omega
theorem ptsOf_take (en : Int) (hp fp : List Int) (rows : List Row) (i : Nat) : (ptsOf en hp fp rows).take i = ptsOf en hp fp (rows.take i) := by
  have key : ∀ (rs : List Row) (acc : List Int) (i : Nat), ((rs.foldl (fun pts r => pts ++ [rowPt en hp fp pts r]) acc)).take (acc.length + i) = (rs.take i).foldl (fun pts r => pts ++ [rowPt en hp fp pts r]) acc := by
    intro rs
    induction rs with
    | nil =>
      intro acc i
      rw [List.take_nil]
      exact List.take_of_length_le (by show acc.length ≤ _; omega)
    | cons r rs ih =>
      intro acc i
      cases i with
      | zero =>
        rw [List.take_zero, Nat.add_zero]
        have h := ih (acc ++ [rowPt en hp fp acc r]) 0
        rw [Nat.add_zero, List.take_zero] at h
        rw [List.foldl_cons]
        have h2 := congrArg (List.take acc.length) h
        rw [List.take_take, List.length_append] at h2
        rw [show min acc.length (acc.length + [rowPt en hp fp acc r].length) = acc.length by omega] at h2
        rw [h2]
        show (acc ++ [rowPt en hp fp acc r]).take acc.length = acc
        rw [List.take_append_of_le_length (Nat.le_refl _), List.take_length]
      | succ i =>
        rw [List.foldl_cons, List.take_succ_cons, List.foldl_cons]
        have h := ih (acc ++ [rowPt en hp fp acc r]) i
        rw [List.length_append, List.length_singleton] at h
        rw [← h]
        congr 1
        omega
  have := key rows [] i
  rw [List.length_nil, Nat.zero_add] at this
  exact this
/-- a row that may stand at place i -/
def RowOk (hc fc i : Nat) : Row → Prop
  | .inn => True
  | .old k => k < hc
  | .times f m a => f.natAbs < 9223372036854775808 ∧ m ≤ 64 ∧ a < i
  | .plus a b => a < i ∧ b < i
  | .less a b => a < i ∧ b < i
  | .move m a => m.natAbs ≤ 64 ∧ a < i
  | .keep f a => f < fc ∧ a < i
structure NetOk (n : NetP) : Prop where
  f1 : 1 ≤ n.fs.length
  f2 : n.fs.length ≤ 12
  fo : ∀ f ∈ n.fs, f.Ok
  en : n.en < n.fs.length
  h2 : n.holds.length ≤ 6
  ho : ∀ h ∈ n.holds, h.k < n.fs.length ∧ (∀ f, n.fs[h.k]? = some f → inR f.w h.s = true) ∧ ∃ a, n.rows[h.l]? = some (.keep h.k a)
  r1 : 1 ≤ n.rows.length
  r2 : n.rows.length ≤ 60
  ro : ∀ i r, n.rows[i]? = some r → RowOk n.holds.length n.fs.length i r
  po : ∀ p ∈ n.pts, -200 ≤ p ∧ p ≤ 200
  out : n.out < n.rows.length
/-- a net in the heap -/
def nflds (fl : Addr) (en : Int) (rl hl : Addr) (out : Int) (pl : Addr) : List (Str × V) := [("form_list", .ref fl), ("enters_at", .int en), ("row_list", .ref rl), ("hold_list", .ref hl), ("out_at", .int out), ("point_list", .ref pl)]
structure NetB (C CN : Addr) (H : Hp) (p : Addr) (n : NetP) (dx fl rl hl pl : Addr) (fv rv hv : List V) : Prop where
  ob : H p = some (.ins CN dx (nflds fl n.en rl hl n.out pl))
  fa : H fl = some (.lst fv)
  fs : FsAt C H fv n.fs
  ra : H rl = some (.lst rv)
  rs : TsAt H rv (n.rows.map Row.vs)
  ha : H hl = some (.lst hv)
  hs : TsAt H hv (n.holds.map Hold.vs)
  pa : H pl = some (.lst (n.pts.map V.int))
def NetAt (C CN : Addr) (H : Hp) (p : Addr) (n : NetP) : Prop := NetOk n ∧ ∃ dx fl rl hl pl fv rv hv, NetB C CN H p n dx fl rl hl pl fv rv hv
theorem NetB.same {C CN : Addr} {H H' : Hp} {p : Addr} {n : NetP} {dx fl rl hl pl : Addr} {fv rv hv : List V} (h : NetB C CN H p n dx fl rl hl pl fv rv hv) (s : Same H H') : NetB C CN H' p n dx fl rl hl pl fv rv hv :=
  ⟨s _ _ h.ob, s _ _ h.fa, h.fs.same s, s _ _ h.ra, h.rs.same s, s _ _ h.ha, h.hs.same s, s _ _ h.pa⟩
theorem NetAt.same {C CN : Addr} {H H' : Hp} {p : Addr} {n : NetP} (h : NetAt C CN H p n) (s : Same H H') : NetAt C CN H' p n := by
  obtain ⟨o, dx, fl, rl, hl, pl, fv, rv, hv, b⟩ := h
  exact ⟨o, dx, fl, rl, hl, pl, fv, rv, hv, b.same s⟩
theorem get_map {α : Type} {l : List α} {i : Nat} {g : α → V} {x : α} (h : l[i]? = some x) : (l.map g)[i]? = some (g x) := by rw [List.getElem?_map, h]; rfl
theorem getD_of {l : List Int} {i : Nat} (h : i < l.length) : l[i]? = some (l.getD i 0) := by
  rw [List.getD_eq_getElem?_getD, List.getElem?_eq_getElem h]
  rfl
theorem ints_at {l : List Int} {i : Nat} (h : i < l.length) : atI (l.map V.int) (i : Int) = some (.int (l.getD i 0)) := atI_nat (get_map (getD_of h))
end E1

namespace E1
open PySem PySem.Spec PyProof.Rows L2

/-- how many steps of the form a number at a point is, rounded -/
def stepsAt (pt : Int) (m : Mn) (n p : Int) : Int := if p ≤ pt then n * 2 ^ (pt - p).toNat else m.f n (2 ^ (p - pt).toNat)
def spEnded (C : Addr) : Sp := fun vs H Q _ => ∃ (p : Addr) (w : Option Int) (pt : Int) (m : Mn) (st : Bool) (n : Int), vs = [.ref p, .int n] ∧ FormAt C H p w pt m st ∧ ∀ r, H r = none → Q (.ref r) (upd H r (.tup [.int (wordF w st n), .int (n - wordF w st n)]))
def spKeptAt (C : Addr) : Sp := fun vs H Q _ => ∃ (p : Addr) (w : Option Int) (pt : Int) (m : Mn) (st : Bool) (n x : Int), vs = [.ref p, .int n, .int x] ∧ FormAt C H p w pt m st ∧ -200 ≤ x ∧ x ≤ 200 ∧ n.natAbs < 2 ^ 900000 ∧
  ∀ (r : Addr) (H' : Hp), H r = none → Same H H' → H' r = some (.tup [.int (wordF w st (stepsAt pt m n x)), .int (stepsAt pt m n x - wordF w st (stepsAt pt m n x))]) → Q (.ref r) H'
theorem ibits_lt {i : Int} {n : Nat} (h : i.natAbs < 2 ^ n) : Builtin.Int.intBits i ≤ n := by
  exact PySem.intBits_le_iff.mpr h
theorem shl_ok {i : Int} {n k : Nat} (h : i.natAbs < 2 ^ n) (l : n + k ≤ 1000000) : CShl i (k : Int) := by
  refine ⟨by omega, ?_⟩
  have := ibits_lt h
  omega
theorem one_shl (k : Nat) : (1 : Int) * 2 ^ k = 2 ^ k := Int.one_mul _
theorem two_pow_lt {k n : Nat} (h : k < n) : ((2 : Int) ^ k).natAbs < 2 ^ n := by
  rw [Int.natAbs_pow]
  exact Nat.pow_lt_pow_right (by decide) h
theorem two_pow_pos (k : Nat) : (0 : Int) < 2 ^ k := Int.pow_pos (by decide)
section
variable {P : Program} {w : World} {K : PySem.W.Frag} {mg : Str → Option Value} {base : Heap}
theorem sc_Form_ended : FnScope ["self", "number", "word"] ["self", "number"] (defScope s_Form_ended) := ⟨rfl, rfl, rfl, by decide +kernel, rfl, by decide +kernel, by decide +kernel⟩
theorem ok_Form_ended {f : Addr} {fd : FuncData} {C : Addr} (T : FTxt K mg C) (F : Fun K "ended" "Form.ended" s_Form_ended f fd) (m_word_for : CalM P w K mg base 3 C "word_for" ["self", "number"] (spWord C)) : FnOk P w K mg base CX0 4 f fd ["self", "number"] (spEnded C) := by
  refine F.ok sc_Form_ended (fun vs H Q E h => ?_) (fun cdv A outer s H vs Q E hr h => ?_)
  · obtain ⟨p, w, pt, m, st, n, rfl, _⟩ := h
    rfl
  · obtain ⟨p, w, pt, m, st, n, rfl, hf, q⟩ := h
    obtain ⟨⟨dx, ho⟩, hw, h0, h1⟩ := id hf
    refine ⟨_, (pss_cons (ps_set (i := 2) sc_Form_ended.nd rfl (.inl rfl) (pe_calm (pv 0) T.cl m_word_for hr (pa_cons (pv 1) pa_nil)))
      (pss_one (ps_ret (pe_tup (pa_cons (pv 2) (pa_cons (pe_op op_sub (pv 1) (pv 2)) pa_nil)))))), ?_⟩
    refine ⟨_, rfl, p, dx, _, rfl, ho, fl_no (by decide +kernel), _, rfl, p, w, pt, m, st, n, rfl, hf, ?_⟩
    exact ⟨_, rfl, _, rfl, _, rfl, _, _, rfl, rfl, (by show 2 ≤ sizeLine; decide), fun r hr => q r hr⟩
theorem sc_Form_kept_at : FnScope ["self", "number", "point"] ["self", "number", "point"] (defScope s_Form_kept_at) := ⟨rfl, rfl, rfl, by decide +kernel, rfl, by decide +kernel, by decide +kernel⟩
theorem ok_Form_kept_at {f : Addr} {fd : FuncData} {C : Addr} (T : FTxt K mg C) (F : Fun K "kept_at" "Form.kept_at" s_Form_kept_at f fd) (c_rounded : Cal P w K mg base 3 "rounded" ["value", "manner"] (spRounded K)) (m_ended : CalM P w K mg base 4 C "ended" ["self", "number"] (spEnded C)) : FnOk P w K mg base CX0 5 f fd ["self", "number", "point"] (spKeptAt C) := by
  refine F.ok sc_Form_kept_at (fun vs H Q E h => ?_) (fun cdv A outer s H vs Q E hr h => ?_)
  · obtain ⟨p, w, pt, m, st, n, x, rfl, _⟩ := h
    rfl
  · obtain ⟨p, w, pt, m, st, n, x, rfl, hf, x0, x1, hn, q⟩ := h
    obtain ⟨⟨dx, ho⟩, hw, h0, h1⟩ := id hf
    refine ⟨_, (pss_cons (ps_if (pt_cmpR op_le (pv 2) (pe_fld (pv 0) rfl) (nomark _)) (pss_one (ps_ret (pe_calm (pv 0) T.cl m_ended hr (pa_cons (pe_op op_shlW (pv 1) (pe_op op_sub (pe_fld (pv 0) rfl) (pv 2))) pa_nil)))) pss_nil)
      (pss_one (ps_ret (pe_calm (pv 0) T.cl m_ended hr (pa_cons (pe_cal c_rounded hr (pa_cons (pe_tup (pa_cons (pv 1) (pa_cons (pe_op op_shlW pe_int (pe_op op_sub (pv 2) (pe_fld (pv 0) rfl))) pa_nil))) (pa_cons (pe_fld (pv 0) rfl) pa_nil))) pa_nil))))), ?_⟩
    refine ⟨_, rfl, _, rfl, p, C, dx, _, _, rfl, ho, T.cl, T.nP, fl_p, _, _, rfl, rfl, _, rfl, ite2 (fun c => ?_) (fun c => ?_)⟩
    · have hc : x ≤ pt := toB c
      have e : pt - x = (((pt - x).toNat : Nat) : Int) := by omega
      refine ⟨_, rfl, p, dx, _, rfl, ho, fl_no (by decide +kernel), _, rfl, _, rfl, p, C, dx, _, _, rfl, ho, T.cl, T.nP, fl_p, _, rfl, _, _, rfl, rfl, _, _, rfl, rfl, ?_, p, w, pt, m, st, _, rfl, hf, fun r hr => ?_⟩
      · rw [e]
        exact shl_ok hn (by omega)
      · have es : stepsAt pt m n x = n * 2 ^ (pt - x).toNat := if_pos hc
        have := q r _ hr (same_new (o := .tup [.int (wordF w st (n * 2 ^ (pt - x).toNat)), .int (n * 2 ^ (pt - x).toNat - wordF w st (n * 2 ^ (pt - x).toNat))]) hr)
        rw [es] at this
        exact this upd_same
    · have hc : ¬ x ≤ pt := toNB c
      have e : x - pt = (((x - pt).toNat : Nat) : Int) := by omega
      refine ⟨_, rfl, p, dx, _, rfl, ho, fl_no (by decide +kernel), _, rfl, _, rfl, _, rfl, p, C, dx, _, _, rfl, ho, T.cl, T.nP, fl_p, _, _, rfl, rfl, _, _, rfl, rfl, ?_, (by show 2 ≤ sizeLine; decide), fun t ht => ?_⟩
      · rw [e]
        exact shl_ok (n := 1) (by decide) (by omega)
      generalize hG : upd _ t _ = G
      obtain ⟨s, h_t⟩ := upd_gen hG ht
      have ho2 := s _ _ ho
      refine ⟨_, rfl, p, C, dx, _, _, rfl, ho2, T.cl, T.nM, fl_m, t, m, n, _, rfl, SqT.of h_t, ?_, up hn (by omega), ?_, p, w, pt, m, st, _, rfl, hf.same s, fun r hr => ?_⟩
      · rw [Int.one_mul]
        exact two_pow_pos _
      · rw [Int.one_mul]
        exact up (two_pow_lt (n := 300) (by omega)) (by decide)
      · have es : stepsAt pt m n x = m.f n (2 ^ (x - pt).toNat) := if_neg hc
        rw [Int.one_mul]
        have := q r _ (s.free hr) (s.trans (same_new (o := .tup [.int (wordF w st (m.f n (2 ^ (x - pt).toNat))), .int (m.f n (2 ^ (x - pt).toNat) - wordF w st (m.f n (2 ^ (x - pt).toNat)))]) hr))
        rw [es] at this
        exact this upd_same
end
end E1

namespace E1
open PySem PySem.Spec PyProof.Rows L2

def GivenAt (H : Hp) (gv : Addr) (en : Int) (hp fp : List Int) : Prop := ∃ ha fa, H gv = some (.tup [.int en, .ref ha, .ref fa]) ∧ H ha = some (.lst (hp.map V.int)) ∧ H fa = some (.lst (fp.map V.int))
def spPlace : Sp := fun vs H Q _ => ∃ k n : Int, vs = [.int k, .int n] ∧ 0 ≤ k ∧ k < n ∧ Q (.bl true) H
def spFactor : Sp := fun vs H Q _ => ∃ f : Int, vs = [.int f] ∧ f.natAbs < 9223372036854775808 ∧ Q (.bl true) H
def spRule (kd : Kd7) : Sp := fun vs H Q _ => ∃ (ra pa gv : Addr) (r : Row) (en : Int) (hp fp pts : List Int), vs = [.ref ra, .ref pa, .ref gv] ∧ H ra = some (.tup r.vs) ∧ r.kd = kd ∧ H pa = some (.lst (pts.map V.int)) ∧ GivenAt H gv en hp fp ∧ RowOk hp.length fp.length pts.length r ∧ Q (.int (rowPt en hp fp pts r)) H
def spRowPt : Sp := fun vs H Q _ => ∃ (ra pa gv : Addr) (r : Row) (en : Int) (hp fp pts : List Int), vs = [.ref ra, .ref pa, .ref gv] ∧ H ra = some (.tup r.vs) ∧ H pa = some (.lst (pts.map V.int)) ∧ GivenAt H gv en hp fp ∧ RowOk hp.length fp.length pts.length r ∧ -200 ≤ rowPt en hp fp pts r ∧ rowPt en hp fp pts r ≤ 200 ∧ Q (.int (rowPt en hp fp pts r)) H
def spWritten : Sp := fun vs H Q _ => ∃ (ra : Addr) (r : Row), vs = [.ref ra] ∧ H ra = some (.tup r.vs) ∧ Q (.bl true) H
structure Lens (w : World) (K : PySem.W.Frag) (mg : Str → Option Value) (dL : Addr) (es : Array DictEntry) (n : Nat) : Prop where
  gm : mg "ROW_LENGTHS" = some (.ref dL)
  D : KDict K w dL es n
  at_ : ∀ k : Kd7, ∃ t, PySem.W.nsIn K dL k.s = some (some (.int (k.n : Int) t))
structure Ruls (P : Program) (w : World) (K : PySem.W.Frag) (mg : Str → Option Value) (base : Heap) (dP : Addr) (es : Array DictEntry) (n : Nat) : Prop where
  gm : mg "POINT_RULES" = some (.ref dP)
  D : KDict K w dP es n
  at_ : ∀ k : Kd7, ∃ (f : Addr) (fd : FuncData), PySem.W.nsIn K dP k.s = some (some (.ref f)) ∧ PySem.W.keepIn K (.ref f) = true ∧ Binds K fd ["row", "points", "given"] [] ∧ FnOk P w K mg base CX0 3 f fd ["row", "points", "given"] (spRule k)
structure NCst (mg : Str → Option Value) : Prop where
  fe : ∃ t, mg "FACTOR_END" = some (.int 9223372036854775808 t)
  gs : ∃ t, mg "GREATEST_SHIFT" = some (.int 64 t)
  gr : ∃ t, mg "GREATEST_ROW_POINT" = some (.int 200 t)
  mf : ∃ t, mg "MOST_FORMS" = some (.int 12 t)
  mr : ∃ t, mg "MOST_ROWS" = some (.int 60 t)
  mh : ∃ t, mg "MOST_HOLDS" = some (.int 6 t)
theorem qt {p : Prop} [Decidable p] {Q : VK} {H : Hp} (h : p) (q : Q (.bl true) H) : Q (.bl (decide p)) H := (congrArg (fun c => Q (.bl c) H) (decide_eq_true h)).mpr q
theorem lenI {l : List Int} : ((l.map V.int).length : Int) = (l.length : Int) := by rw [List.length_map]
section
variable {P : Program} {w : World} {K : PySem.W.Frag} {mg : Str → Option Value} {base : Heap}
theorem sc_is_place : FnScope ["thing", "many"] ["thing", "many"] (defScope s_is_place) := ⟨rfl, rfl, rfl, by decide +kernel, rfl, by decide +kernel, by decide +kernel⟩
theorem ok_is_place {f : Addr} {fd : FuncData} (F : Fun K "is_place" "is_place" s_is_place f fd) (c_is_whole : Cal P w K mg base 1 "is_whole" ["thing"] (spWhole K)) : FnOk P w K mg base CX0 2 f fd ["thing", "many"] spPlace := by
  refine F.ok sc_is_place (fun vs H Q E h => ?_) (fun cdv A outer s H vs Q E hr h => ?_)
  · obtain ⟨k, n, rfl, _⟩ := h
    rfl
  · obtain ⟨k, n, rfl, h0, h1, q⟩ := h
    refine ⟨_, (pss_one (ps_ret (pe_and (pe_cal c_is_whole hr (pa_cons (pv 0) pa_nil)) (pe_one (pe_chain op_le op_lt pe_int (pv 0) (pv 1)))))), ?_⟩
    refine ⟨_, rfl, _, true, rfl, .inl ⟨k, rfl, rfl⟩, _, rfl, iteT ⟨_, rfl, _, _, rfl, rfl, _, rfl, ?_⟩⟩
    rw [decide_eq_true (show (0 : Int) ≤ k from h0)]
    exact iteT ⟨_, rfl, _, _, rfl, rfl, qt h1 q⟩
theorem sc_is_factor : FnScope ["thing"] ["thing"] (defScope s_is_factor) := ⟨rfl, rfl, rfl, by decide +kernel, rfl, by decide +kernel, by decide +kernel⟩
theorem ok_is_factor {f : Addr} {fd : FuncData} (NC : NCst mg) (F : Fun K "is_factor" "is_factor" s_is_factor f fd) (z : Zs mg) (c_is_whole : Cal P w K mg base 1 "is_whole" ["thing"] (spWhole K)) : FnOk P w K mg base CX0 2 f fd ["thing"] spFactor := by
  refine F.ok sc_is_factor (fun vs H Q E h => ?_) (fun cdv A outer s H vs Q E hr h => ?_)
  · obtain ⟨k, rfl, _⟩ := h
    rfl
  · obtain ⟨k, rfl, h1, q⟩ := h
    refine ⟨_, (pss_one (ps_ret (pe_and (pe_cal c_is_whole hr (pa_cons (pv 0) pa_nil)) (pe_one (pe_cmpR op_lt (pe_callB call_abs (by rfl) z.abs (by decide +kernel) (pa_cons (pv 0) pa_nil)) (pe_glob (v := .int 9223372036854775808) (by rfl) NC.fe.choose_spec ⟨_, rfl⟩) (nomark _)))))), ?_⟩
    refine ⟨_, rfl, _, true, rfl, .inl ⟨k, rfl, rfl⟩, _, rfl, iteT ⟨_, rfl, _, rfl, _, _, rfl, rfl, qt (show (if k < 0 then -k else k) < 9223372036854775808 by split <;> omega) q⟩⟩
theorem sc_in_point : FnScope ["row", "points", "given"] ["row", "points", "given"] (defScope s_in_point) := ⟨rfl, rfl, rfl, by decide +kernel, rfl, by decide +kernel, by decide +kernel⟩
theorem ok_in_point {f : Addr} {fd : FuncData} (F : Fun K "in_point" "in_point" s_in_point f fd) : FnOk P w K mg base CX0 3 f fd ["row", "points", "given"] (spRule .inn) := by
  refine F.ok sc_in_point (fun vs H Q E h => ?_) (fun cdv A outer s H vs Q E hr h => ?_)
  · obtain ⟨ra, pa, gv, r, en, hp, fp, pts, rfl, _⟩ := h
    rfl
  · obtain ⟨ra, pa, gv, r, en, hp, fp, pts, rfl, hra, hk, hpa, ⟨ha, fa, hgv, hha, hfa⟩, hok, q⟩ := h
    refine ⟨_, (pss_one (ps_ret (pe_ix ix_tup (pv 2) pe_int (fun _ _ => rfl)))), ?_⟩
    match r, hk, hok, hra, q with
    | .inn, _, _, hra, q => exact ⟨_, rfl, gv, _, 0, .int en, rfl, rfl, SqT.of hgv, a0, q⟩
theorem sc_old_point : FnScope ["row", "points", "given", "hold_points"] ["row", "points", "given"] (defScope s_old_point) := ⟨rfl, rfl, rfl, by decide +kernel, rfl, by decide +kernel, by decide +kernel⟩
theorem ok_old_point {f : Addr} {fd : FuncData} (z : Zs mg) (c_is_place : Cal P w K mg base 2 "is_place" ["thing", "many"] spPlace) (F : Fun K "old_point" "old_point" s_old_point f fd) : FnOk P w K mg base CX0 3 f fd ["row", "points", "given"] (spRule .old) := by
  refine F.ok sc_old_point (fun vs H Q E h => ?_) (fun cdv A outer s H vs Q E hr h => ?_)
  · obtain ⟨ra, pa, gv, r, en, hp, fp, pts, rfl, _⟩ := h
    rfl
  · obtain ⟨ra, pa, gv, r, en, hp, fp, pts, rfl, hra, hk, hpa, ⟨ha, fa, hgv, hha, hfa⟩, hok, q⟩ := h
    refine ⟨_, (pss_cons (ps_set (i := 3) sc_old_point.nd rfl (.inl rfl) (pe_ix ix_tup (pv 2) pe_int (fun _ _ => rfl)))
      (pss_one (ps_ret (pe_ifExp (pt_val (pe_cal c_is_place hr (pa_cons (pe_ix ix_tup (pv 0) pe_int (fun _ _ => rfl)) (pa_cons (pe_callB call_len_seq (by rfl) z.len PySem.boot_len (pa_cons (pv 3) pa_nil)) pa_nil)))) (pe_ix ix_list (pv 3) (pe_ix ix_tup (pv 0) pe_int (fun _ _ => rfl)) (fun _ _ => rfl)) pe_non)))), ?_⟩
    match r, hk, hok, hra, q with
    | .old k, _, hok, hra, q =>
      have hk : k < hp.length := hok
      refine ⟨_, rfl, gv, _, 1, .ref ha, rfl, rfl, SqT.of hgv, a1, _, rfl, ra, _, 1, .int k, rfl, rfl, SqT.of hra, a1, _, rfl, ha, _, rfl, .inl (SqL.of hha), _, _, rfl, by omega, by rw [lenI]; omega, _, rfl, iteT ?_⟩
      exact ⟨_, rfl, _, rfl, ra, _, 1, .int k, rfl, rfl, SqT.of hra, a1, ha, _, _, _, rfl, rfl, SqL.of hha, ints_at hk, q⟩
theorem sc_times_point : FnScope ["row", "points", "given", "word", "factor", "more", "at"] ["row", "points", "given"] (defScope s_times_point) := ⟨rfl, rfl, rfl, by decide +kernel, rfl, by decide +kernel, by decide +kernel⟩
theorem ok_times_point {f : Addr} {fd : FuncData} (NC : NCst mg) (z : Zs mg) (c_is_factor : Cal P w K mg base 2 "is_factor" ["thing"] spFactor) (c_is_place : Cal P w K mg base 2 "is_place" ["thing", "many"] spPlace) (F : Fun K "times_point" "times_point" s_times_point f fd) : FnOk P w K mg base CX0 3 f fd ["row", "points", "given"] (spRule .times) := by
  refine F.ok sc_times_point (fun vs H Q E h => ?_) (fun cdv A outer s H vs Q E hr h => ?_)
  · obtain ⟨ra, pa, gv, r, en, hp, fp, pts, rfl, _⟩ := h
    rfl
  · obtain ⟨ra, pa, gv, r, en, hp, fp, pts, rfl, hra, hk, hpa, ⟨ha, fa, hgv, hha, hfa⟩, hok, q⟩ := h
    refine ⟨_, (pss_cons (ps_asg (pv 0) (pg_tup (by rfl) (pgs_cons (pg_name (i := 3) sc_times_point.nd rfl (.inl rfl)) (pgs_cons (pg_name (i := 4) sc_times_point.nd rfl (.inl rfl)) (pgs_cons (pg_name (i := 5) sc_times_point.nd rfl (.inl rfl)) (pgs_cons (pg_name (i := 6) sc_times_point.nd rfl (.inl rfl)) pgs_nil))))))
      (pss_cons (ps_if (PW.pt (pw_or (pt_not (pt_val (pe_cal c_is_factor hr (pa_cons (pv 4) pa_nil)))) (pw_or (pt_not (pt_val (pe_cal c_is_place hr (pa_cons (pv 5) (pa_cons (pe_op op_add (pe_glob (v := .int 64) (by rfl) NC.gs.choose_spec ⟨_, rfl⟩) pe_int) pa_nil))))) (pw_or1 (pt_not (pt_val (pe_cal c_is_place hr (pa_cons (pv 6) (pa_cons (pe_callB call_len_seq (by rfl) z.len PySem.boot_len (pa_cons (pv 1) pa_nil)) pa_nil))))))))) (pss_one (ps_ret pe_non)) pss_nil)
      (pss_one (ps_ret (pe_op op_add (pe_ix ix_list (pv 1) (pv 6) (fun _ _ => rfl)) (pv 5)))))), ?_⟩
    match r, hk, hok, hra, q with
    | .times f m a, _, hok, hra, q =>
      obtain ⟨h1, h2, h3⟩ := hok
      refine ⟨_, rfl, ra, _, rfl, SqT.of hra, rfl, _, _, rfl, _, _, rfl, _, _, rfl, _, _, rfl, rfl, _, rfl, f, rfl, h1, _, rfl, iteF ⟨_, rfl, _, _, rfl, rfl, _, _, rfl, by omega, by omega, _, rfl, iteF ⟨_, rfl, _, rfl, pa, _, rfl, .inl (SqL.of hpa), _, _, rfl, by omega, by rw [lenI]; omega, _, rfl, iteF ?_⟩⟩⟩
      exact ⟨_, rfl, _, rfl, pa, _, _, _, rfl, rfl, SqL.of hpa, ints_at h3, _, rfl, _, _, rfl, rfl, q⟩
theorem sc_sum_point : FnScope ["row", "points", "given", "word", "one", "other"] ["row", "points", "given"] (defScope s_sum_point) := ⟨rfl, rfl, rfl, by decide +kernel, rfl, by decide +kernel, by decide +kernel⟩
theorem ok_sum_point_plus {f : Addr} {fd : FuncData} (z : Zs mg) (c_is_place : Cal P w K mg base 2 "is_place" ["thing", "many"] spPlace) (F : Fun K "sum_point" "sum_point" s_sum_point f fd) : FnOk P w K mg base CX0 3 f fd ["row", "points", "given"] (spRule .plus) := by
  refine F.ok sc_sum_point (fun vs H Q E h => ?_) (fun cdv A outer s H vs Q E hr h => ?_)
  · obtain ⟨ra, pa, gv, r, en, hp, fp, pts, rfl, _⟩ := h
    rfl
  · obtain ⟨ra, pa, gv, r, en, hp, fp, pts, rfl, hra, hk, hpa, ⟨ha, fa, hgv, hha, hfa⟩, hok, q⟩ := h
    refine ⟨_, (pss_cons (ps_asg (pv 0) (pg_tup (by rfl) (pgs_cons (pg_name (i := 3) sc_sum_point.nd rfl (.inl rfl)) (pgs_cons (pg_name (i := 4) sc_sum_point.nd rfl (.inl rfl)) (pgs_cons (pg_name (i := 5) sc_sum_point.nd rfl (.inl rfl)) pgs_nil)))))
      (pss_cons (ps_if (PW.pt (pw_or (pt_not (pt_val (pe_cal c_is_place hr (pa_cons (pv 4) (pa_cons (pe_callB call_len_seq (by rfl) z.len PySem.boot_len (pa_cons (pv 1) pa_nil)) pa_nil))))) (pw_or1 (pt_not (pt_val (pe_cal c_is_place hr (pa_cons (pv 5) (pa_cons (pe_callB call_len_seq (by rfl) z.len PySem.boot_len (pa_cons (pv 1) pa_nil)) pa_nil)))))))) (pss_one (ps_ret pe_non)) pss_nil)
      (pss_one (ps_ret (pe_callB (call_max2 rfl) (by rfl) z.max (by decide +kernel) (pa_cons (pe_ix ix_list (pv 1) (pv 4) (fun _ _ => rfl)) (pa_cons (pe_ix ix_list (pv 1) (pv 5) (fun _ _ => rfl)) pa_nil))))))), ?_⟩
    match r, hk, hok, hra, q with
    | .plus a b, _, hok, hra, q =>
      obtain ⟨h1, h2⟩ := hok
      refine ⟨_, rfl, ra, _, rfl, SqT.of hra, rfl, _, _, rfl, _, _, rfl, _, _, rfl, rfl, _, rfl, _, rfl, pa, _, rfl, .inl (SqL.of hpa), _, _, rfl, by omega, by rw [lenI]; omega, _, rfl, iteF ⟨_, rfl, _, rfl, pa, _, rfl, .inl (SqL.of hpa), _, _, rfl, by omega, by rw [lenI]; omega, _, rfl, iteF ?_⟩⟩
      exact ⟨_, rfl, _, rfl, pa, _, _, _, rfl, rfl, SqL.of hpa, ints_at h1, _, rfl, _, rfl, pa, _, _, _, rfl, rfl, SqL.of hpa, ints_at h2, _, _, rfl, q⟩
theorem ok_sum_point_less {f : Addr} {fd : FuncData} (z : Zs mg) (c_is_place : Cal P w K mg base 2 "is_place" ["thing", "many"] spPlace) (F : Fun K "sum_point" "sum_point" s_sum_point f fd) : FnOk P w K mg base CX0 3 f fd ["row", "points", "given"] (spRule .less) := by
  refine F.ok sc_sum_point (fun vs H Q E h => ?_) (fun cdv A outer s H vs Q E hr h => ?_)
  · obtain ⟨ra, pa, gv, r, en, hp, fp, pts, rfl, _⟩ := h
    rfl
  · obtain ⟨ra, pa, gv, r, en, hp, fp, pts, rfl, hra, hk, hpa, ⟨ha, fa, hgv, hha, hfa⟩, hok, q⟩ := h
    refine ⟨_, (pss_cons (ps_asg (pv 0) (pg_tup (by rfl) (pgs_cons (pg_name (i := 3) sc_sum_point.nd rfl (.inl rfl)) (pgs_cons (pg_name (i := 4) sc_sum_point.nd rfl (.inl rfl)) (pgs_cons (pg_name (i := 5) sc_sum_point.nd rfl (.inl rfl)) pgs_nil)))))
      (pss_cons (ps_if (PW.pt (pw_or (pt_not (pt_val (pe_cal c_is_place hr (pa_cons (pv 4) (pa_cons (pe_callB call_len_seq (by rfl) z.len PySem.boot_len (pa_cons (pv 1) pa_nil)) pa_nil))))) (pw_or1 (pt_not (pt_val (pe_cal c_is_place hr (pa_cons (pv 5) (pa_cons (pe_callB call_len_seq (by rfl) z.len PySem.boot_len (pa_cons (pv 1) pa_nil)) pa_nil)))))))) (pss_one (ps_ret pe_non)) pss_nil)
      (pss_one (ps_ret (pe_callB (call_max2 rfl) (by rfl) z.max (by decide +kernel) (pa_cons (pe_ix ix_list (pv 1) (pv 4) (fun _ _ => rfl)) (pa_cons (pe_ix ix_list (pv 1) (pv 5) (fun _ _ => rfl)) pa_nil))))))), ?_⟩
    match r, hk, hok, hra, q with
    | .less a b, _, hok, hra, q =>
      obtain ⟨h1, h2⟩ := hok
      refine ⟨_, rfl, ra, _, rfl, SqT.of hra, rfl, _, _, rfl, _, _, rfl, _, _, rfl, rfl, _, rfl, _, rfl, pa, _, rfl, .inl (SqL.of hpa), _, _, rfl, by omega, by rw [lenI]; omega, _, rfl, iteF ⟨_, rfl, _, rfl, pa, _, rfl, .inl (SqL.of hpa), _, _, rfl, by omega, by rw [lenI]; omega, _, rfl, iteF ?_⟩⟩
      exact ⟨_, rfl, _, rfl, pa, _, _, _, rfl, rfl, SqL.of hpa, ints_at h1, _, rfl, _, rfl, pa, _, _, _, rfl, rfl, SqL.of hpa, ints_at h2, _, _, rfl, q⟩
theorem sc_move_point : FnScope ["row", "points", "given", "word", "many", "at"] ["row", "points", "given"] (defScope s_move_point) := ⟨rfl, rfl, rfl, by decide +kernel, rfl, by decide +kernel, by decide +kernel⟩
theorem ok_move_point {f : Addr} {fd : FuncData} (NC : NCst mg) (z : Zs mg) (c_is_whole : Cal P w K mg base 1 "is_whole" ["thing"] (spWhole K)) (c_is_place : Cal P w K mg base 2 "is_place" ["thing", "many"] spPlace) (F : Fun K "move_point" "move_point" s_move_point f fd) : FnOk P w K mg base CX0 3 f fd ["row", "points", "given"] (spRule .move) := by
  refine F.ok sc_move_point (fun vs H Q E h => ?_) (fun cdv A outer s H vs Q E hr h => ?_)
  · obtain ⟨ra, pa, gv, r, en, hp, fp, pts, rfl, _⟩ := h
    rfl
  · obtain ⟨ra, pa, gv, r, en, hp, fp, pts, rfl, hra, hk, hpa, ⟨ha, fa, hgv, hha, hfa⟩, hok, q⟩ := h
    refine ⟨_, (pss_cons (ps_asg (pv 0) (pg_tup (by rfl) (pgs_cons (pg_name (i := 3) sc_move_point.nd rfl (.inl rfl)) (pgs_cons (pg_name (i := 4) sc_move_point.nd rfl (.inl rfl)) (pgs_cons (pg_name (i := 5) sc_move_point.nd rfl (.inl rfl)) pgs_nil)))))
      (pss_cons (ps_if (PW.pt (pw_or (pt_not (pt_val (pe_cal c_is_whole hr (pa_cons (pv 4) pa_nil)))) (pw_or (pt_cmpR op_gt (pe_callB call_abs (by rfl) z.abs (by decide +kernel) (pa_cons (pv 4) pa_nil)) (pe_glob (v := .int 64) (by rfl) NC.gs.choose_spec ⟨_, rfl⟩) (nomark _)) (pw_or1 (pt_not (pt_val (pe_cal c_is_place hr (pa_cons (pv 5) (pa_cons (pe_callB call_len_seq (by rfl) z.len PySem.boot_len (pa_cons (pv 1) pa_nil)) pa_nil))))))))) (pss_one (ps_ret pe_non)) pss_nil)
      (pss_one (ps_ret (pe_op op_sub (pe_ix ix_list (pv 1) (pv 5) (fun _ _ => rfl)) (pv 4)))))), ?_⟩
    match r, hk, hok, hra, q with
    | .move m a, _, hok, hra, q =>
      obtain ⟨h1, h2⟩ := hok
      refine ⟨_, rfl, ra, _, rfl, SqT.of hra, rfl, _, _, rfl, _, _, rfl, _, _, rfl, rfl, _, rfl, _, true, rfl, .inl ⟨m, rfl, rfl⟩, _, rfl, iteF ⟨_, rfl, _, rfl, _, _, rfl, rfl, _, rfl, iteC (d := false) (decide_eq_false (by split <;> omega)) (iteF ⟨_, rfl, _, rfl, pa, _, rfl, .inl (SqL.of hpa), _, _, rfl, by omega, by rw [lenI]; omega, _, rfl, iteF ?_⟩)⟩⟩
      exact ⟨_, rfl, _, rfl, pa, _, _, _, rfl, rfl, SqL.of hpa, ints_at h2, _, rfl, _, _, rfl, rfl, q⟩
theorem sc_keep_point : FnScope ["row", "points", "given", "word", "form", "at", "form_points"] ["row", "points", "given"] (defScope s_keep_point) := ⟨rfl, rfl, rfl, by decide +kernel, rfl, by decide +kernel, by decide +kernel⟩
theorem ok_keep_point {f : Addr} {fd : FuncData} (z : Zs mg) (c_is_place : Cal P w K mg base 2 "is_place" ["thing", "many"] spPlace) (F : Fun K "keep_point" "keep_point" s_keep_point f fd) : FnOk P w K mg base CX0 3 f fd ["row", "points", "given"] (spRule .keep) := by
  refine F.ok sc_keep_point (fun vs H Q E h => ?_) (fun cdv A outer s H vs Q E hr h => ?_)
  · obtain ⟨ra, pa, gv, r, en, hp, fp, pts, rfl, _⟩ := h
    rfl
  · obtain ⟨ra, pa, gv, r, en, hp, fp, pts, rfl, hra, hk, hpa, ⟨ha, fa, hgv, hha, hfa⟩, hok, q⟩ := h
    refine ⟨_, (pss_cons (ps_asg (pv 0) (pg_tup (by rfl) (pgs_cons (pg_name (i := 3) sc_keep_point.nd rfl (.inl rfl)) (pgs_cons (pg_name (i := 4) sc_keep_point.nd rfl (.inl rfl)) (pgs_cons (pg_name (i := 5) sc_keep_point.nd rfl (.inl rfl)) pgs_nil)))))
      (pss_cons (ps_set (i := 6) sc_keep_point.nd rfl (.inl rfl) (pe_ix ix_tup (pv 2) pe_int (fun _ _ => rfl)))
      (pss_cons (ps_if (PW.pt (pw_or (pt_not (pt_val (pe_cal c_is_place hr (pa_cons (pv 4) (pa_cons (pe_callB call_len_seq (by rfl) z.len PySem.boot_len (pa_cons (pv 6) pa_nil)) pa_nil))))) (pw_or1 (pt_not (pt_val (pe_cal c_is_place hr (pa_cons (pv 5) (pa_cons (pe_callB call_len_seq (by rfl) z.len PySem.boot_len (pa_cons (pv 1) pa_nil)) pa_nil)))))))) (pss_one (ps_ret pe_non)) pss_nil)
      (pss_one (ps_ret (pe_ix ix_list (pv 6) (pv 4) (fun _ _ => rfl))))))), ?_⟩
    match r, hk, hok, hra, q with
    | .keep f a, _, hok, hra, q =>
      obtain ⟨h1, h2⟩ := hok
      refine ⟨_, rfl, ra, _, rfl, SqT.of hra, rfl, _, _, rfl, _, _, rfl, _, _, rfl, rfl, _, rfl, gv, _, 2, .ref fa, rfl, rfl, SqT.of hgv, a2, _, rfl, _, rfl, fa, _, rfl, .inl (SqL.of hfa), _, _, rfl, by omega, by rw [lenI]; omega, _, rfl, iteF ⟨_, rfl, _, rfl, pa, _, rfl, .inl (SqL.of hpa), _, _, rfl, by omega, by rw [lenI]; omega, _, rfl, iteF ?_⟩⟩
      exact ⟨_, rfl, _, rfl, fa, _, _, _, rfl, rfl, SqL.of hfa, ints_at h1, q⟩
theorem sc_is_written_as_row : FnScope ["thing"] ["thing"] (defScope s_is_written_as_row) := ⟨rfl, rfl, rfl, by decide +kernel, rfl, by decide +kernel, by decide +kernel⟩
theorem ok_is_written_as_row {f : Addr} {fd : FuncData} {k : Nat} {dL : Addr} {eL : Array DictEntry} {nL : Nat} (LE : Lens w K mg dL eL nL) (F : Fun K "is_written_as_row" "is_written_as_row" s_is_written_as_row f fd) (z : Zs mg) : FnOk P w K mg base CX0 (k + 1) f fd ["thing"] spWritten := by
  refine F.ok sc_is_written_as_row (fun vs H Q E h => ?_) (fun cdv A outer s H vs Q E hr h => ?_)
  · obtain ⟨ra, r, rfl, _⟩ := h
    rfl
  · obtain ⟨ra, r, rfl, hra, q⟩ := h
    refine ⟨_, (pss_cons (ps_if (PW.pt (pw_or (pt_not (pt_val (pe_callB call_isi (by rfl) z.isinstance (by decide +kernel) (pa_cons (pv 0) (pa_cons (pe_bltn (v := .ty "tuple") (by rfl) z.tuple (by decide +kernel) rfl) pa_nil))))) (pw_or (pt_not (pt_truth (pv 0) (by intro _; rfl))) (pw_or1 (pt_not (pt_val (pe_callB call_isi (by rfl) z.isinstance (by decide +kernel) (pa_cons (pe_ix ix_tup (pv 0) pe_int (fun _ _ => rfl)) (pa_cons (pe_bltn (v := .ty "str") (by rfl) z.str (by decide +kernel) rfl) pa_nil))))))))) (pss_one (ps_ret pe_bl)) pss_nil)
      (pss_one (ps_ret (pe_and (pe_cmpR (op_in_kd LE.D) (pe_ix ix_tup (pv 0) pe_int (fun _ _ => rfl)) (pe_glob (v := .ref dL) (by rfl) LE.gm rfl) (by rfl)) (pe_one (pe_cmpR op_eq (pe_callB call_len_seq (by rfl) z.len PySem.boot_len (pa_cons (pv 0) pa_nil)) (pe_ix ix_kdict (pe_glob (v := .ref dL) (by rfl) LE.gm rfl) (pe_ix ix_tup (pv 0) pe_int (fun _ _ => rfl)) (fun _ _ => rfl)) (nomark _))))))), ?_⟩
    obtain ⟨t, hL⟩ := LE.at_ r.kd
    have l0 : (!r.vs.isEmpty) = true := by cases r <;> rfl
    refine ⟨_, rfl, _, .ty "tuple", _, _, true, rfl, .ty _, .base (.tup hra), kit_ty (by decide +kernel), _, rfl, iteF ⟨_, rfl, true, .inr (.inl ⟨_, SqT.of hra, l0.symm⟩), iteF ⟨_, rfl, ra, _, 0, .str r.kd.s, rfl, rfl, SqT.of hra, atI_nat (j := 0) r.vs0, _, .ty "str", _, _, true, rfl, .ty _, .base (.str _), kit_ty (by decide +kernel), _, rfl, iteF ?_⟩⟩⟩
    refine ⟨_, rfl, ra, _, 0, .str r.kd.s, rfl, rfl, SqT.of hra, atI_nat (j := 0) r.vs0, _, _, rfl, rfl, hL, _, rfl, iteT ⟨_, rfl, ra, _, rfl, .inr (SqT.of hra), _, rfl, ra, _, 0, .str r.kd.s, rfl, rfl, SqT.of hra, atI_nat (j := 0) r.vs0, dL, r.kd.s, .int (r.kd.n : Int), rfl, rfl, ⟨eL, nL, _, LE.D.at_, LE.D.lit, hL, ⟨_, rfl⟩⟩, rfl, ?_⟩⟩
    rw [r.vs_len, decide_eq_true rfl]
    exact q
theorem sc_row_point : FnScope ["row", "points", "given", "rule", "point"] ["row", "points", "given"] (defScope s_row_point) := ⟨rfl, rfl, rfl, by decide +kernel, rfl, by decide +kernel, by decide +kernel⟩
theorem ok_row_point {f : Addr} {fd : FuncData} {dP : Addr} {eP : Array DictEntry} {nP : Nat} (RU : Ruls P w K mg base dP eP nP) (NC : NCst mg) (F : Fun K "row_point" "row_point" s_row_point f fd) (z : Zs mg) (c_is_written_as_row : Cal P w K mg base 1 "is_written_as_row" ["thing"] spWritten) : FnOk P w K mg base CX0 4 f fd ["row", "points", "given"] spRowPt := by
  refine F.ok sc_row_point (fun vs H Q E h => ?_) (fun cdv A outer s H vs Q E hr h => ?_)
  · obtain ⟨ra, pa, gv, r, en, hp, fp, pts, rfl, _⟩ := h
    rfl
  · obtain ⟨ra, pa, gv, r, en, hp, fp, pts, rfl, hra, hpa, hg, hok, p0, p1, q⟩ := h
    obtain ⟨fR, fdR, h1, hK, hB, hF⟩ := RU.at_ r.kd
    refine ⟨_, (pss_cons (ps_if (pt_not (pt_val (pe_cal c_is_written_as_row hr (pa_cons (pv 0) pa_nil)))) (pss_one (ps_ret pe_non)) pss_nil)
      (pss_cons (ps_set (i := 3) sc_row_point.nd rfl (.inl rfl) (pe_ix ix_kdict (pe_glob (v := .ref dP) (by rfl) RU.gm rfl) (pe_ix ix_tup (pv 0) pe_int (fun _ _ => rfl)) (fun _ _ => rfl)))
      (pss_cons (ps_set (i := 4) sc_row_point.nd rfl (.inl rfl) (pe_callL (i := 3) hF hr rfl (Or.inl rfl) hK hB .nil pass0 (pa_cons (pv 0) (pa_cons (pv 1) (pa_cons (pv 2) pa_nil)))))
      (pss_one (ps_ret (pe_ifExp (PW.pt (pw_and (pt_cmpR op_notN (pv 4) pe_non (nomark _)) (pw_and1 (pt_cmpR op_le (pe_callB call_abs (by rfl) z.abs (by decide +kernel) (pa_cons (pv 4) pa_nil)) (pe_glob (v := .int 200) (by rfl) NC.gr.choose_spec ⟨_, rfl⟩) (nomark _))))) (pv 4) pe_non)))))), ?_⟩
    refine ⟨_, rfl, ra, r, rfl, hra, _, rfl, iteF ?_⟩
    refine ⟨_, rfl, ra, _, 0, .str r.kd.s, rfl, rfl, SqT.of hra, atI_nat (j := 0) r.vs0, dP, r.kd.s, .ref fR, rfl, rfl, ⟨eP, nP, _, RU.D.at_, RU.D.lit, h1, rfl⟩, ?_⟩
    refine ⟨rfl, _, rfl, _, rfl, _, rfl, ra, pa, gv, r, en, hp, fp, pts, rfl, hra, rfl, hpa, hg, hok, ?_⟩
    refine ⟨_, rfl, rfl, _, rfl, iteT ⟨_, rfl, _, rfl, _, _, rfl, rfl, _, rfl, iteC (d := true) (decide_eq_true (by split <;> omega)) (iteT ⟨_, rfl, q⟩)⟩⟩
end
end E1

namespace E1
open PySem PySem.Spec PyProof.Rows L2

/-- what the written part says of the class of forms -/
structure IsC (K : PySem.W.Frag) (mg : Str → Option Value) (C : Addr) : Prop where
  gC : mg "Form" = some (.ref C)
  ha : PySem.W.findIn K (.ref C) "__class__" = some (some (.builtin "object.__class__"))
  hn : PySem.W.specialIn K (.builtin "object.__class__") "__get__" = some (some (.builtin "getset_descriptor.__get__"))
  ht : PySem.W.takesIn K (.builtin "object.__class__") = some true
  hm : PySem.W.mroIn K C (.type "object") = some true
  kC : PySem.W.kitOne K (.ref C) (.ref C) = some true
def spLen4 : Sp := fun vs H Q _ => ∃ (a : Addr) (xs : List V) (z : Str) (lo hi : Int), vs = [.ref a, .str z, .int lo, .int hi] ∧ H a = some (.lst xs) ∧ lo ≤ xs.length ∧ (xs.length : Int) ≤ hi ∧ Q .non H
def spCkForms (C : Addr) : Sp := fun vs H Q _ => ∃ (a : Addr) (fv : List V) (fs : List FormP), vs = [.ref a] ∧ H a = some (.lst fv) ∧ FsAt C H fv fs ∧ 1 ≤ fs.length ∧ fs.length ≤ 12 ∧ ∀ H', Same H H' → Q .non H'
def spIsHold (C : Addr) : Sp := fun vs H Q _ => ∃ (ta a : Addr) (fv : List V) (fs : List FormP) (h : Hold) (f : FormP), vs = [.ref ta, .ref a] ∧ H ta = some (.tup h.vs) ∧ H a = some (.lst fv) ∧ FsAt C H fv fs ∧ fs[h.k]? = some f ∧ inR f.w h.s = true ∧ Q (.bl true) H
def spCkHolds (C : Addr) : Sp := fun vs H Q _ => ∃ (b a : Addr) (hv fv : List V) (fs : List FormP) (hs : List Hold), vs = [.ref b, .ref a] ∧ H b = some (.lst hv) ∧ TsAt H hv (hs.map Hold.vs) ∧ H a = some (.lst fv) ∧ FsAt C H fv fs ∧ hs.length ≤ 6 ∧ (∀ h ∈ hs, h.k < fs.length ∧ ∀ f, fs[h.k]? = some f → inR f.w h.s = true) ∧ ∀ H', Same H H' → Q .non H'
def spCkPts : Sp := fun vs H Q _ => ∃ (ra gv : Addr) (rv : List V) (rows : List Row) (en : Int) (hp fp : List Int), vs = [.ref ra, .ref gv] ∧ H ra = some (.lst rv) ∧ TsAt H rv (rows.map Row.vs) ∧ GivenAt H gv en hp fp ∧ 1 ≤ rows.length ∧ rows.length ≤ 60 ∧ (∀ i r, rows[i]? = some r → RowOk hp.length fp.length i r) ∧ (∀ p ∈ ptsOf en hp fp rows, -200 ≤ p ∧ p ≤ 200) ∧
  ∀ p H', Same H H' → H p = none → H' p = some (.lst ((ptsOf en hp fp rows).map V.int)) → Q (.ref p) H'
def spCkLinks : Sp := fun vs H Q _ => ∃ (b ra : Addr) (hv rv : List V) (hs : List Hold) (rows : List Row), vs = [.ref b, .ref ra] ∧ H b = some (.lst hv) ∧ TsAt H hv (hs.map Hold.vs) ∧ H ra = some (.lst rv) ∧ TsAt H rv (rows.map Row.vs) ∧ (∀ h ∈ hs, ∃ a, rows[h.l]? = some (.keep h.k a)) ∧ ∀ H', Same H H' → Q .non H'
def spNetInit (C CN : Addr) : Sp := fun vs H Q _ => ∃ (p dx fl rl hl : Addr) (n : NetP) (fv rv hv : List V), vs = [.ref p, .ref fl, .int n.en, .ref rl, .ref hl, .int n.out] ∧ H p = some (.ins CN dx []) ∧ H fl = some (.lst fv) ∧ FsAt C H fv n.fs ∧ H rl = some (.lst rv) ∧ TsAt H rv (n.rows.map Row.vs) ∧ H hl = some (.lst hv) ∧ TsAt H hv (n.holds.map Hold.vs) ∧ NetOk n ∧
  ∀ H', NetAt C CN H' p n → (∀ b o, b ≠ p → H b = some o → H' b = some o) → Q .non H'
theorem GivenAt.same {H H' : Hp} {gv : Addr} {en : Int} {hp fp : List Int} (h : GivenAt H gv en hp fp) (s : Same H H') : GivenAt H' gv en hp fp := by
  obtain ⟨ha, fa, a, b, c⟩ := h
  exact ⟨ha, fa, s _ _ a, s _ _ b, s _ _ c⟩
theorem ptsOf_next {en : Int} {hp fp : List Int} {rows : List Row} {i : Nat} {r : Row} (h : rows[i]? = some r) : ptsOf en hp fp (rows.take (i + 1)) = ptsOf en hp fp (rows.take i) ++ [rowPt en hp fp (ptsOf en hp fp (rows.take i)) r] := by
  rw [List.take_add_one, h, Option.toList_some, ptsOf_snoc]
theorem ptsOf_in {en : Int} {hp fp : List Int} {rows : List Row} {i : Nat} {r : Row} (h : rows[i]? = some r) : rowPt en hp fp (ptsOf en hp fp (rows.take i)) r ∈ ptsOf en hp fp rows := by
  have e := ptsOf_take en hp fp rows (i + 1)
  rw [ptsOf_next h] at e
  have : rowPt en hp fp (ptsOf en hp fp (rows.take i)) r ∈ (ptsOf en hp fp rows).take (i + 1) := by
    rw [e]
    exact List.mem_append.mpr (.inr (List.mem_singleton.mpr rfl))
  exact List.mem_of_mem_take this
theorem putF_app {k : Str} {v : V} : ∀ {l : List (Str × V)}, ((l.map (·.1)).all fun x => decide (x ≠ k)) = true → putF k v l = l ++ [(k, v)]
  | [], _ => rfl
  | (g, x) :: r, h => by
    rw [List.map_cons, List.all_cons, Bool.and_eq_true, decide_eq_true_eq] at h
    show (if g = k then (g, v) :: r else (g, x) :: putF k v r) = _
    rw [if_neg h.1, putF_app h.2]
    rfl
theorem kp_lay (k : Int) : PyData.canLay0 (.tuple [.str "keep", .int k]) = true := by
  simp only [PyData.canLay0, PyData.canLayAll0, Bool.and_true]
  decide +kernel
theorem kp_shaped (k : Int) : SeqAt.shaped (.tuple [.str "keep", .int k]) = true := by
  show (PyData.canLay0 (.tuple [.str "keep", .int k]) && decide (PyData.depth (.tuple [.str "keep", .int k]) ≤ 64)) = true
  rw [kp_lay, Bool.true_and]
  simp only [PyData.depth, PyData.depthAll]
  rfl
def fks : List Str := ["form_list", "enters_at", "row_list", "hold_list", "out_at", "point_list"]
theorem fks_new : ∀ i : Fin 6, ((fks.take i.val).all fun x => decide (x ≠ fks[i.val]'i.isLt)) = true := by decide +kernel
theorem nf0 {a : V} : putF "form_list" a [] = [(("form_list" : Str), a)] := rfl
theorem nf1 {a b : V} : putF "enters_at" b [(("form_list" : Str), a)] = [(("form_list" : Str), a), ("enters_at", b)] := putF_app (fks_new 1)
theorem nf2 {a b c : V} : putF "row_list" c [(("form_list" : Str), a), ("enters_at", b)] = [(("form_list" : Str), a), ("enters_at", b), ("row_list", c)] := putF_app (fks_new 2)
theorem nf3 {a b c d : V} : putF "hold_list" d [(("form_list" : Str), a), ("enters_at", b), ("row_list", c)] = [(("form_list" : Str), a), ("enters_at", b), ("row_list", c), ("hold_list", d)] := putF_app (fks_new 3)
theorem nf4 {a b c d e : V} : putF "out_at" e [(("form_list" : Str), a), ("enters_at", b), ("row_list", c), ("hold_list", d)] = [(("form_list" : Str), a), ("enters_at", b), ("row_list", c), ("hold_list", d), ("out_at", e)] := putF_app (fks_new 4)
theorem nf5 {a b c d e f : V} : putF "point_list" f [(("form_list" : Str), a), ("enters_at", b), ("row_list", c), ("hold_list", d), ("out_at", e)] = [(("form_list" : Str), a), ("enters_at", b), ("row_list", c), ("hold_list", d), ("out_at", e), ("point_list", f)] := putF_app (fks_new 5)
section
variable {P : Program} {w : World} {K : PySem.W.Frag} {mg : Str → Option Value} {base : Heap}
theorem sc_check_length : FnScope ["thing", "part", "least", "most"] ["thing", "part", "least", "most"] (defScope s_check_length) := ⟨rfl, rfl, rfl, by decide +kernel, rfl, by decide +kernel, by decide +kernel⟩
theorem ok_check_length {f : Addr} {fd : FuncData} {k : Nat} (F : Fun K "check_length" "check_length" s_check_length f fd) (z : Zs mg) : FnOk P w K mg base CX0 (k + 1) f fd ["thing", "part", "least", "most"] spLen4 := by
  refine F.ok sc_check_length (fun vs H Q E h => ?_) (fun cdv A outer s H vs Q E hr h => ?_)
  · obtain ⟨a, xs, zz, lo, hi, rfl, _⟩ := h
    rfl
  · obtain ⟨a, xs, zz, lo, hi, rfl, ha, l0, l1, q⟩ := h
    refine ⟨_, (pss_one (ps_if (PW.pt (pw_or (pt_not (pt_val (pe_callB call_isi (by rfl) z.isinstance (by decide +kernel) (pa_cons (pv 0) (pa_cons (pe_bltn (v := .ty "list") (by rfl) z.list (by decide +kernel) rfl) pa_nil))))) (pw_or1 (pt_not (pt_chain op_le op_le (pv 2) (pe_callB call_len_seq (by rfl) z.len PySem.boot_len (pa_cons (pv 0) pa_nil)) (pv 3)))))) (pss_one ps_never) pss_nil)), ?_⟩
    refine ⟨_, rfl, _, .ty "list", _, _, true, rfl, .ty _, .base (.lst ha), kit_ty (by decide +kernel), _, rfl, iteF ⟨_, rfl, _, rfl, a, _, rfl, .inl (SqL.of ha), _, _, rfl, rfl, _, rfl, ?_⟩⟩
    refine iteC (d := true) (decide_eq_true l0) (iteT ⟨_, rfl, _, _, rfl, rfl, _, rfl, ?_⟩)
    exact iteC (d := false) (by rw [decide_eq_true (show (xs.length : Int) ≤ hi from l1)]; rfl) (iteF q)
theorem sc_check_forms : FnScope ["forms", "at", "form"] ["forms"] (defScope s_check_forms) := ⟨rfl, rfl, rfl, by decide +kernel, rfl, by decide +kernel, by decide +kernel⟩
theorem ok_check_forms {f : Addr} {fd : FuncData} {C : Addr} (T : FTxt K mg C) (IC : IsC K mg C) (NC : NCst mg) (F : Fun K "check_forms" "check_forms" s_check_forms f fd) (z : Zs mg) (c_check_length : Cal P w K mg base 1 "check_length" ["thing", "part", "least", "most"] spLen4) : FnOk P w K mg base CX0 2 f fd ["forms"] (spCkForms C) := by
  refine F.ok sc_check_forms (fun vs H Q E h => ?_) (fun cdv A outer s H vs Q E hr h => ?_)
  · obtain ⟨a, fv, fs, rfl, _⟩ := h
    rfl
  · obtain ⟨a, fv, fs, rfl, ha, hf, l0, l1, q⟩ := h
    refine ⟨_, (pss_cons (ps_expr (pe_cal c_check_length hr (pa_cons (pv 0) (pa_cons pe_str (pa_cons pe_int (pa_cons (pe_glob (v := .int 12) (by rfl) NC.mf.choose_spec ⟨_, rfl⟩) pa_nil))))))
      (pss_one (ps_for PassesOwn.never rfl (pi_enum (by rfl) z.enumerate (pa_cons (pv 0) pa_nil)) (pg_tup (by rfl) (pgs_cons (pg_name (i := 1) sc_check_forms.nd rfl (.inl rfl)) (pgs_cons (pg_name (i := 2) sc_check_forms.nd rfl (.inl rfl)) pgs_nil))) (pss_one (ps_if (pt_not (pt_val (pe_callB call_isi (by rfl) z.isinstance (by decide +kernel) (pa_cons (pv 2) (pa_cons (pe_glob (v := .ref C) (by rfl) IC.gC rfl) pa_nil))))) (pss_one ps_never) pss_nil))))), ?_⟩
    have ll := hf.len
    refine ⟨_, rfl, a, fv, _, _, _, rfl, ha, by omega, by omega, ?_⟩
    refine ⟨_, rfl, a, _, rfl, SqL.of ha, for_it (walk_enum (K := K) (a := a) (xs := fv)) (fun i σ H' => ∃ y3 y4 : Option V, σ = [some (.ref a), y3, y4] ∧ Same H H') ⟨none, none, rfl, Same.refl _⟩ (fun i σ H' _ hP => ?_) (fun i v σ H1 H2 hi hP hY => ?_) (fun σ H' hP => ?_)⟩
    · obtain ⟨y3, y4, rfl, s1⟩ := hP
      exact SqL.of (s1 _ _ ha)
    · obtain ⟨y3, y4, rfl, s1⟩ := hP
      obtain ⟨Tp, u, v', rfl, nT, rfl, e1, e2⟩ := hY
      cases e1
      obtain ⟨p, f, rfl, _, hp⟩ := hf.get e2
      have s2 := s1.trans (same_new (o := .tup [.int (i : Nat), .ref p]) nT)
      obtain ⟨dx, ho⟩ := (FormAt.same hp s2).ob
      refine ⟨Tp, _, rfl, SqT.of upd_same, rfl, _, _, rfl, _, _, rfl, rfl, ?_⟩
      exact ⟨_, rfl, _, .ref C, .ref C, .ref C, true, rfl, .own C, .base (.ins ho T.cl IC.ha IC.hn IC.ht IC.hm), IC.kC, _, rfl, iteF ⟨_, _, rfl, s2⟩⟩
    · obtain ⟨y3, y4, rfl, s1⟩ := hP
      exact q _ s1
theorem sc_is_hold : FnScope ["thing", "forms"] ["thing", "forms"] (defScope s_is_hold) := ⟨rfl, rfl, rfl, by decide +kernel, rfl, by decide +kernel, by decide +kernel⟩
theorem ok_is_hold {f : Addr} {fd : FuncData} {C : Addr} (T : FTxt K mg C) (F : Fun K "is_hold" "is_hold" s_is_hold f fd) (z : Zs mg) (c_is_place : Cal P w K mg base 2 "is_place" ["thing", "many"] spPlace) (m_has : CalM P w K mg base 2 C "has" ["self", "thing"] (spHas K C)) : FnOk P w K mg base CX0 3 f fd ["thing", "forms"] (spIsHold C) := by
  refine F.ok sc_is_hold (fun vs H Q E h => ?_) (fun cdv A outer s H vs Q E hr h => ?_)
  · obtain ⟨ta, a, fv, fs, h, f, rfl, _⟩ := h
    rfl
  · obtain ⟨ta, a, fv, fs, h, f, rfl, hta, ha, hf, hk, hin, q⟩ := h
    refine ⟨_, (pss_cons (ps_if (PW.pt (pw_or (pt_not (pt_val (pe_callB call_isi (by rfl) z.isinstance (by decide +kernel) (pa_cons (pv 0) (pa_cons (pe_bltn (v := .ty "tuple") (by rfl) z.tuple (by decide +kernel) rfl) pa_nil))))) (pw_or1 (pt_cmpR op_ne (pe_callB call_len_seq (by rfl) z.len PySem.boot_len (pa_cons (pv 0) pa_nil)) pe_int (nomark _))))) (pss_one (ps_ret pe_bl)) pss_nil)
      (pss_one (ps_ret (pe_and (pe_cal c_is_place hr (pa_cons (pe_ix ix_tup (pv 0) pe_int (fun _ _ => rfl)) (pa_cons (pe_callB call_len_seq (by rfl) z.len PySem.boot_len (pa_cons (pv 1) pa_nil)) pa_nil))) (pe_one (pe_calm (pe_ix ix_list (pv 1) (pe_ix ix_tup (pv 0) pe_int (fun _ _ => rfl)) (fun _ _ => rfl)) T.cl m_has hr (pa_cons (pe_ix ix_tup (pv 0) pe_int (fun _ _ => rfl)) pa_nil))))))), ?_⟩
    have ll := hf.len
    have kl : h.k < fs.length := (List.getElem?_eq_some_iff.mp hk).1
    obtain ⟨p, ep, fp⟩ := hf.at hk
    obtain ⟨dx, ho⟩ := fp.ob
    refine ⟨_, rfl, _, .ty "tuple", _, _, true, rfl, .ty _, .base (.tup hta), kit_ty (by decide +kernel), _, rfl, iteF ⟨_, rfl, ta, _, rfl, .inr (SqT.of hta), rfl, _, rfl, iteF ?_⟩⟩
    refine ⟨_, rfl, ta, _, 0, .int h.k, rfl, rfl, SqT.of hta, a0, _, rfl, a, _, rfl, .inl (SqL.of ha), _, _, rfl, by omega, by omega, _, rfl, iteT ?_⟩
    refine ⟨_, rfl, _, rfl, ta, _, 0, .int h.k, rfl, rfl, SqT.of hta, a0, a, _, _, .ref p, rfl, rfl, SqL.of ha, atI_nat ep, p, dx, _, rfl, ho, fl_no (by decide +kernel), _, rfl, ta, _, 1, .int h.s, rfl, rfl, SqT.of hta, a1, p, f.w, f.pt, f.m, f.st, .int h.s, _, rfl, fp, .inl ⟨_, rfl, rfl⟩, ?_⟩
    rw [hin]
    exact q
theorem sc_check_holds : FnScope ["holds", "forms", "at", "hold"] ["holds", "forms"] (defScope s_check_holds) := ⟨rfl, rfl, rfl, by decide +kernel, rfl, by decide +kernel, by decide +kernel⟩
theorem ok_check_holds {f : Addr} {fd : FuncData} {C : Addr} (NC : NCst mg) (F : Fun K "check_holds" "check_holds" s_check_holds f fd) (z : Zs mg) (c_check_length : Cal P w K mg base 1 "check_length" ["thing", "part", "least", "most"] spLen4) (c_is_hold : Cal P w K mg base 3 "is_hold" ["thing", "forms"] (spIsHold C)) : FnOk P w K mg base CX0 4 f fd ["holds", "forms"] (spCkHolds C) := by
  refine F.ok sc_check_holds (fun vs H Q E h => ?_) (fun cdv A outer s H vs Q E hr h => ?_)
  · obtain ⟨b, a, hv, fv, fs, hs, rfl, _⟩ := h
    rfl
  · obtain ⟨b, a, hv, fv, fs, hs, rfl, hb, ht, ha, hf, l1, ho, q⟩ := h
    refine ⟨_, (pss_cons (ps_expr (pe_cal c_check_length hr (pa_cons (pv 0) (pa_cons pe_str (pa_cons pe_int (pa_cons (pe_glob (v := .int 6) (by rfl) NC.mh.choose_spec ⟨_, rfl⟩) pa_nil))))))
      (pss_one (ps_for PassesOwn.never rfl (pi_enum (by rfl) z.enumerate (pa_cons (pv 0) pa_nil)) (pg_tup (by rfl) (pgs_cons (pg_name (i := 2) sc_check_holds.nd rfl (.inl rfl)) (pgs_cons (pg_name (i := 3) sc_check_holds.nd rfl (.inl rfl)) pgs_nil))) (pss_one (ps_if (pt_not (pt_val (pe_cal c_is_hold hr (pa_cons (pv 3) (pa_cons (pv 1) pa_nil))))) (pss_one ps_never) pss_nil))))), ?_⟩
    have ll := ht.len
    rw [List.length_map] at ll
    refine ⟨_, rfl, b, hv, _, _, _, rfl, hb, by omega, by omega, ?_⟩
    refine ⟨_, rfl, b, _, rfl, SqL.of hb, for_it (walk_enum (K := K) (a := b) (xs := hv)) (fun i σ H' => ∃ y3 y4 : Option V, σ = [some (.ref b), some (.ref a), y3, y4] ∧ Same H H') ⟨none, none, rfl, Same.refl _⟩ (fun i σ H' _ hP => ?_) (fun i v σ H1 H2 hi hP hY => ?_) (fun σ H' hP => ?_)⟩
    · obtain ⟨y3, y4, rfl, s1⟩ := hP
      exact SqL.of (s1 _ _ hb)
    · obtain ⟨y3, y4, rfl, s1⟩ := hP
      obtain ⟨Tp, u, v', rfl, nT, rfl, e1, e2⟩ := hY
      cases e1
      obtain ⟨p, xs, rfl, ex, hp⟩ := ht.get e2
      rw [List.getElem?_map] at ex
      obtain ⟨hh, eh, rfl⟩ := Option.map_eq_some_iff.mp ex
      obtain ⟨o1, o2⟩ := ho hh (List.mem_of_getElem? eh)
      have s2 := s1.trans (same_new (o := .tup [.int (i : Nat), .ref p]) nT)
      refine ⟨Tp, _, rfl, SqT.of upd_same, rfl, _, _, rfl, _, _, rfl, rfl, ?_⟩
      refine ⟨_, rfl, _, rfl, p, a, fv, fs, hh, fs[hh.k], rfl, s2 _ _ hp, s2 _ _ ha, hf.same s2, List.getElem?_eq_getElem o1, o2 _ (List.getElem?_eq_getElem o1), _, rfl, iteF ⟨_, _, rfl, s2⟩⟩
    · obtain ⟨y3, y4, rfl, s1⟩ := hP
      exact q _ s1
theorem sc_checked_points : FnScope ["rows", "given", "points", "at", "row", "point"] ["rows", "given"] (defScope s_checked_points) := ⟨rfl, rfl, rfl, by decide +kernel, rfl, by decide +kernel, by decide +kernel⟩
theorem ok_checked_points {f : Addr} {fd : FuncData} (NC : NCst mg) (F : Fun K "checked_points" "checked_points" s_checked_points f fd) (z : Zs mg) (c_check_length : Cal P w K mg base 1 "check_length" ["thing", "part", "least", "most"] spLen4) (c_row_point : Cal P w K mg base 4 "row_point" ["row", "points", "given"] spRowPt) : FnOk P w K mg base CX0 5 f fd ["rows", "given"] spCkPts := by
  refine F.ok sc_checked_points (fun vs H Q E h => ?_) (fun cdv A outer s H vs Q E hr h => ?_)
  · obtain ⟨ra, gv, rv, rows, en, hp, fp, rfl, _⟩ := h
    rfl
  · obtain ⟨ra, gv, rv, rows, en, hp, fp, rfl, hra, hrs, hg, l0, l1, ro, po, q⟩ := h
    refine ⟨_, (pss_cons (ps_expr (pe_cal c_check_length hr (pa_cons (pv 0) (pa_cons pe_str (pa_cons pe_int (pa_cons (pe_glob (v := .int 60) (by rfl) NC.mr.choose_spec ⟨_, rfl⟩) pa_nil))))))
      (pss_cons (ps_set (i := 2) sc_checked_points.nd rfl (.inl rfl) (pe_lst pa_nil))
      (pss_cons (ps_for PassesOwn.never rfl (pi_enum (by rfl) z.enumerate (pa_cons (pv 0) pa_nil)) (pg_tup (by rfl) (pgs_cons (pg_name (i := 3) sc_checked_points.nd rfl (.inl rfl)) (pgs_cons (pg_name (i := 4) sc_checked_points.nd rfl (.inl rfl)) pgs_nil))) (pss_cons (ps_set (i := 5) sc_checked_points.nd rfl (.inl rfl) (pe_cal c_row_point hr (pa_cons (pv 4) (pa_cons (pv 2) (pa_cons (pv 1) pa_nil)))))
      (pss_cons (ps_if (pt_cmpR op_isN (pv 5) pe_non (nomark _)) (pss_one ps_never) pss_nil)
      (pss_one (ps_expr (pe_bm PySem.F.plainAttrs_list PySem.F.slot_list_append PySem.F.type_list_append mt_append (pv 2) (pa_cons (pv 5) pa_nil)))))))
      (pss_one (ps_ret (pv 2)))))), ?_⟩
    have ll := hrs.len
    rw [List.length_map] at ll
    refine ⟨_, rfl, ra, rv, _, _, _, rfl, hra, by omega, by omega, ?_⟩
    refine ⟨(by show 0 ≤ sizeLine; decide), fun pl hpl => ?_⟩
    generalize hG : upd _ pl _ = G0
    obtain ⟨s0, h_pl⟩ := upd_gen hG hpl
    refine ⟨_, rfl, ra, _, rfl, SqL.of (s0 _ _ hra), for_it (walk_enum (K := K) (a := ra) (xs := rv)) (fun i σ H' => ∃ y3 y4 y5 : Option V, σ = [some (.ref ra), some (.ref gv), some (.ref pl), y3, y4, y5] ∧ Same H H' ∧ H' pl = some (.lst ((ptsOf en hp fp (rows.take i)).map V.int))) ⟨none, none, none, rfl, s0, h_pl⟩ (fun i σ H' _ hP => ?_) (fun i v σ H1 H2 hi hP hY => ?_) (fun σ H' hP => ?_)⟩
    · obtain ⟨y3, y4, y5, rfl, s1, _⟩ := hP
      exact SqL.of (s1 _ _ hra)
    · obtain ⟨y3, y4, y5, rfl, s1, hl⟩ := hP
      obtain ⟨Tp, u, v', rfl, nT, rfl, e1, e2⟩ := hY
      cases e1
      obtain ⟨p, xs, rfl, ex, hp'⟩ := hrs.get e2
      rw [List.getElem?_map] at ex
      obtain ⟨r, er, rfl⟩ := Option.map_eq_some_iff.mp ex
      have sn := same_new (o := .tup [.int (i : Nat), .ref p]) nT
      have s2 := s1.trans sn
      have hl2 := sn _ _ hl
      have li : (ptsOf en hp fp (rows.take i)).length = i := by
        rw [ptsOf_len, List.length_take]
        have := (List.getElem?_eq_some_iff.mp er).1
        omega
      obtain ⟨b0, b1⟩ := po _ (ptsOf_in er)
      refine ⟨Tp, _, rfl, SqT.of upd_same, rfl, _, _, rfl, _, _, rfl, rfl, ?_⟩
      refine ⟨_, rfl, _, rfl, _, rfl, p, pl, gv, r, en, hp, fp, _, rfl, s2 _ _ hp', hl2, hg.same s2, by rw [li]; exact ro i r er, b0, b1, ?_⟩
      refine ⟨_, rfl, rfl, _, rfl, iteF ⟨_, rfl, .inl ⟨rfl, _, SqL.of hl2⟩, _, rfl, pl, _, _, rfl, rfl, hl2, ?_, ?_⟩⟩
      · rw [List.length_map, li]
        exact sl_lt (by omega)
      · refine ⟨_, _, _, rfl, fun b o e => ?_, ?_⟩
        · rw [upd_ne (ne_of_none e hpl)]
          exact s2 _ _ e
        · rw [upd_same, ptsOf_next er, List.map_append]
          rfl
    · obtain ⟨y3, y4, y5, rfl, s1, hl⟩ := hP
      rw [ll, List.take_length] at hl
      exact ⟨_, rfl, q pl _ s1 hpl hl⟩
theorem sc_check_links : FnScope ["holds", "rows", "at", "hold"] ["holds", "rows"] (defScope s_check_links) := ⟨rfl, rfl, rfl, by decide +kernel, rfl, by decide +kernel, by decide +kernel⟩
theorem ok_check_links {f : Addr} {fd : FuncData} (F : Fun K "check_links" "check_links" s_check_links f fd) (z : Zs mg) (c_is_place : Cal P w K mg base 2 "is_place" ["thing", "many"] spPlace) : FnOk P w K mg base CX0 3 f fd ["holds", "rows"] spCkLinks := by
  refine F.ok sc_check_links (fun vs H Q E h => ?_) (fun cdv A outer s H vs Q E hr h => ?_)
  · obtain ⟨b, ra, hv, rv, hs, rows, rfl, _⟩ := h
    rfl
  · obtain ⟨b, ra, hv, rv, hs, rows, rfl, hb, ht, hra, hrs, ho, q⟩ := h
    refine ⟨_, (pss_one (ps_for PassesOwn.never rfl (pi_enum (by rfl) z.enumerate (pa_cons (pv 0) pa_nil)) (pg_tup (by rfl) (pgs_cons (pg_name (i := 2) sc_check_links.nd rfl (.inl rfl)) (pgs_cons (pg_name (i := 3) sc_check_links.nd rfl (.inl rfl)) pgs_nil))) (pss_one (ps_if (PW.pt (pw_or (pt_not (pt_val (pe_cal c_is_place hr (pa_cons (pe_ix ix_tup (pv 3) pe_int (fun _ _ => rfl)) (pa_cons (pe_callB call_len_seq (by rfl) z.len PySem.boot_len (pa_cons (pv 1) pa_nil)) pa_nil))))) (pw_or1 (pt_cmpR (op_neD hr.units) (pe_slice sl_tup (pe_ix ix_list (pv 1) (pe_ix ix_tup (pv 3) pe_int (fun _ _ => rfl)) (fun _ _ => rfl)) po_none (po_some pe_int)) (pe_tup (pa_cons pe_str (pa_cons (pe_ix ix_tup (pv 3) pe_int (fun _ _ => rfl)) pa_nil))) (nomark _))))) (pss_one ps_never) pss_nil)))), ?_⟩
    have ll := hrs.len
    rw [List.length_map] at ll
    refine ⟨_, rfl, b, _, rfl, SqL.of hb, for_it (walk_enum (K := K) (a := b) (xs := hv)) (fun i σ H' => ∃ y3 y4 : Option V, σ = [some (.ref b), some (.ref ra), y3, y4] ∧ Same H H') ⟨none, none, rfl, Same.refl _⟩ (fun i σ H' _ hP => ?_) (fun i v σ H1 H2 hi hP hY => ?_) (fun σ H' hP => ?_)⟩
    · obtain ⟨y3, y4, rfl, s1⟩ := hP
      exact SqL.of (s1 _ _ hb)
    · obtain ⟨y3, y4, rfl, s1⟩ := hP
      obtain ⟨Tp, u, v', rfl, nT, rfl, e1, e2⟩ := hY
      cases e1
      obtain ⟨p, xs, rfl, ex, hp⟩ := ht.get e2
      rw [List.getElem?_map] at ex
      obtain ⟨hh, eh, rfl⟩ := Option.map_eq_some_iff.mp ex
      obtain ⟨a, ea⟩ := ho hh (List.mem_of_getElem? eh)
      have s2 := s1.trans (same_new (o := .tup [.int (i : Nat), .ref p]) nT)
      have al := (List.getElem?_eq_some_iff.mp ea).1
      obtain ⟨rp, erp, hrp⟩ := hrs.at (i := hh.l) (xs := (Row.keep hh.k a).vs) (by rw [List.getElem?_map, ea]; rfl)
      have hp2 := s2 _ _ hp
      refine ⟨Tp, _, rfl, SqT.of upd_same, rfl, _, _, rfl, _, _, rfl, rfl, ?_⟩
      refine ⟨_, rfl, p, _, 2, .int hh.l, rfl, rfl, SqT.of hp2, a2, _, rfl, ra, _, rfl, .inl (SqL.of (s2 _ _ hra)), _, _, rfl, by omega, by omega, _, rfl, iteF ?_⟩
      refine ⟨_, rfl, _, rfl, p, _, 2, .int hh.l, rfl, rfl, SqT.of hp2, a2, ra, _, _, .ref rp, rfl, rfl, SqL.of (s2 _ _ hra), atI_nat erp, _, rfl, rp, _, rfl, SqT.of (s2 _ _ hrp), (by show ¬ (HT.sIx 3 0 none = 0 ∧ HT.sIx 3 3 (some 2) = 3); decide), fun c1 hc1 => ?_⟩
      generalize hG : upd _ c1 _ = G1
      obtain ⟨s3, h_c1⟩ := upd_gen hG hc1
      refine ⟨_, rfl, p, _, 0, .int hh.k, rfl, rfl, SqT.of (s3 _ _ hp2), a0, (by show 2 ≤ sizeLine; decide), fun c2 hc2 => ?_⟩
      generalize hG2 : upd _ c2 _ = G2
      obtain ⟨s4, h_c2⟩ := upd_gen hG2 hc2
      refine ⟨.tuple [.str "keep", .int hh.k], .tuple [.str "keep", .int hh.k], .tup (SqT.of (s4 _ _ h_c1)) (.cons (.str _) (.cons (.int _) .nil)), .tup (SqT.of h_c2) (.cons (.str _) (.cons (.int _) .nil)), kp_shaped _, kp_shaped _, _, rfl, ?_⟩
      refine iteC (d := false) (by rw [SeqAt.eqv_refl _ (kp_lay _)]; rfl) (iteF ⟨_, _, rfl, (s2.trans s3).trans s4⟩)
    · obtain ⟨y3, y4, rfl, s1⟩ := hP
      exact q _ s1
end
end E1

namespace E1
open PySem PySem.Spec PyProof.Rows L2

theorem upd_but {H G : Hp} {p : Addr} {o : HO} (e : upd H p o = G) : SameBut p H G ∧ G p = some o := by
  subst e
  exact ⟨SameBut.upd, upd_same⟩
theorem FsAt.butI {C CN p dx : Addr} {H H' : Hp} {vs : List V} {fs : List FormP} (h : FsAt C H vs fs) (s : SameBut p H H') (hp : H p = some (.ins CN dx [])) : FsAt C H' vs fs := by
  induction h with
  | nil => exact .nil
  | cons e _ ih =>
    obtain ⟨d, ho⟩ := e.ob
    exact .cons ⟨⟨d, s _ _ (fun z => by rw [z, hp] at ho; cases ho) ho⟩, e.wo, e.p0, e.p1⟩ ih
structure NTxt (K : PySem.W.Frag) (mg : Str → Option Value) (CN : Addr) : Prop where
  cl : Cls K CN
  n_form_list : NoAttr K CN "form_list"
  n_enters_at : NoAttr K CN "enters_at"
  n_row_list : NoAttr K CN "row_list"
  n_hold_list : NoAttr K CN "hold_list"
  n_out_at : NoAttr K CN "out_at"
  n_point_list : NoAttr K CN "point_list"
section
variable {P : Program} {w : World} {K : PySem.W.Frag} {mg : Str → Option Value} {base : Heap}
theorem sc_Net___init__ : FnScope ["self", "forms", "enters", "rows", "holds", "out", "form_points", "hold_points", "points", "form", "hold"] ["self", "forms", "enters", "rows", "holds", "out"] (defScope s_Net___init__) := ⟨rfl, rfl, rfl, by decide +kernel, rfl, by decide +kernel, by decide +kernel⟩
theorem ok_Net___init__ {f : Addr} {fd : FuncData} {C CN : Addr} (T : FTxt K mg C) (TN : NTxt K mg CN) (F : Fun K "__init__" "Net.__init__" s_Net___init__ f fd) (z : Zs mg) (c_check_forms : Cal P w K mg base 2 "check_forms" ["forms"] (spCkForms C)) (c_is_place : Cal P w K mg base 2 "is_place" ["thing", "many"] spPlace) (c_check_holds : Cal P w K mg base 4 "check_holds" ["holds", "forms"] (spCkHolds C)) (c_checked_points : Cal P w K mg base 5 "checked_points" ["rows", "given"] spCkPts) (c_check_links : Cal P w K mg base 3 "check_links" ["holds", "rows"] spCkLinks) : FnOk P w K mg base CX0 6 f fd ["self", "forms", "enters", "rows", "holds", "out"] (spNetInit C CN) := by
  refine F.ok sc_Net___init__ (fun vs H Q E h => ?_) (fun cdv A outer s H vs Q E hr h => ?_)
  · obtain ⟨p, dx, fl, rl, hl, n, fv, rv, hv, rfl, _⟩ := h
    rfl
  · obtain ⟨p, dx, fl, rl, hl, n, fv, rv, hv, rfl, hp, hf, hfs, hra, hrs, hha, hhs, ok, q⟩ := h
    refine ⟨_, (pss_cons (ps_expr (pe_cal c_check_forms hr (pa_cons (pv 1) pa_nil)))
      (pss_cons (ps_if (pt_not (pt_val (pe_cal c_is_place hr (pa_cons (pv 2) (pa_cons (pe_callB call_len_seq (by rfl) z.len PySem.boot_len (pa_cons (pv 1) pa_nil)) pa_nil))))) (pss_one ps_never) pss_nil)
      (pss_cons (ps_expr (pe_cal c_check_holds hr (pa_cons (pv 4) (pa_cons (pv 1) pa_nil))))
      (pss_cons (ps_set (i := 6) sc_Net___init__.nd rfl (.inr rfl) (pe_lc (own := [("form", 9)]) (g := gName 9) (tt := tYes) (te := tFld K (tVar 9) "point") (by rfl) sc_Net___init__.nd (pi_list (pv 1)) (blkOk_by (own := [("form", 9)]) (N := ["self", "forms", "enters", "rows", "holds", "out", "form_points", "hold_points", "points", "form", "hold"]) (sc := defScope s_Net___init__) (by decide +kernel)) (fun _ _ _ _ _ => by exact (pg_name (i := 9) sc_Net___init__.nd rfl (.inl rfl))) (fun _ _ _ _ _ => by exact pts_nil) (fun _ _ _ _ _ => by exact (pe_fld (pv 9) rfl))))
      (pss_cons (ps_setLc (i := 7) (own := [("hold", 10)]) (g := gName 10) (tt := tYes) (te := (tOp (rIxL K) (tVar 6) (tOp (rIxT K) (tVar 10) (tC (.int 0))))) (by rfl) sc_Net___init__.nd rfl rfl (sw_true rfl rfl rfl (by decide +kernel)) (pi_list (pv 4)) (blkOk_by (own := [("hold", 10)]) (N := ["self", "forms", "enters", "rows", "holds", "out", "form_points", "hold_points", "points", "form", "hold"]) (sc := defScope s_Net___init__) (by decide +kernel)) (fun _ _ _ _ _ => by exact (pg_name (i := 10) sc_Net___init__.nd rfl (.inl rfl))) (fun _ _ _ _ _ => by exact pts_nil) (fun _ _ _ _ _ => by exact (pe_ix ix_list (pv 6) (pe_ix ix_tup (pv 10) pe_int (fun _ _ => rfl)) (fun _ _ => rfl))))
      (pss_cons (ps_set (i := 8) sc_Net___init__.nd rfl (.inl rfl) (pe_cal c_checked_points hr (pa_cons (pv 3) (pa_cons (pe_tup (pa_cons (pe_ix ix_list (pv 6) (pv 2) (fun _ _ => rfl)) (pa_cons (pv 7) (pa_cons (pv 6) pa_nil)))) pa_nil))))
      (pss_cons (ps_expr (pe_cal c_check_links hr (pa_cons (pv 4) (pa_cons (pv 3) pa_nil))))
      (pss_cons (ps_if (pt_not (pt_val (pe_cal c_is_place hr (pa_cons (pv 5) (pa_cons (pe_callB call_len_seq (by rfl) z.len PySem.boot_len (pa_cons (pv 3) pa_nil)) pa_nil))))) (pss_one ps_never) pss_nil)
      (pss_cons (ps_fld (pv 0) (pe_callTy call_list_of (by rfl) z.list (by decide +kernel) (pa_cons (pv 1) pa_nil)) rfl)
      (pss_cons (ps_fld (pv 0) (pv 2) rfl)
      (pss_cons (ps_fld (pv 0) (pe_callTy call_list_of (by rfl) z.list (by decide +kernel) (pa_cons (pv 3) pa_nil)) rfl)
      (pss_cons (ps_fld (pv 0) (pe_callTy call_list_of (by rfl) z.list (by decide +kernel) (pa_cons (pv 4) pa_nil)) rfl)
      (pss_cons (ps_fld (pv 0) (pv 5) rfl)
      (pss_one (ps_fld (pv 0) (pv 8) rfl))))))))))))))), ?_⟩
    have lf := hfs.len
    have lr := hrs.len
    have lh := hhs.len
    rw [List.length_map] at lr lh
    have en0 := ok.en
    have out0 := ok.out
    refine ⟨_, rfl, fl, fv, n.fs, rfl, hf, hfs, ok.f1, ok.f2, fun H1 s1 => ?_⟩
    refine ⟨_, rfl, _, rfl, fl, _, rfl, .inl (SqL.of (s1 _ _ hf)), _, _, rfl, by omega, by omega, _, rfl, iteF ?_⟩
    refine ⟨_, rfl, _, rfl, hl, fl, hv, fv, n.fs, n.holds, rfl, s1 _ _ hha, hhs.same s1, s1 _ _ hf, hfs.same s1, ok.h2, fun h hm => ⟨(ok.ho h hm).1, (ok.ho h hm).2.1⟩, fun H2 s2 => ?_⟩
    have S2 := s1.trans s2
    refine ⟨_, rfl, fl, rfl, ⟨_, SqL.of (S2 _ _ hf)⟩, fun Da hD => ?_⟩
    refine lc_it (walk_list (K := K) (a := fl) (xs := fv)) (fun i H4 => Same H2 H4 ∧ H4 Da = some (.lst (((n.fs.take i).map (·.pt)).map V.int))) ⟨same_new hD, upd_same⟩ (fun i H4 hi hP => SqL.of (hP.1 _ _ (S2 _ _ hf))) (fun i x' H4 H5 hi hP hy => ?_) (fun H3 hP => ?_)
    · obtain ⟨s4, hD4⟩ := hP
      obtain ⟨rfl, hx⟩ := hy
      obtain ⟨fa, fm, rfl, efm, hfa⟩ := hfs.get hx
      obtain ⟨dxf, hof⟩ := (FormAt.same hfa (S2.trans s4)).ob
      refine ⟨rfl, _, rfl, fa, C, dxf, _, _, rfl, hof, T.cl, T.nP, fl_p, _, hD4, ?_, fun b' o' e' => ?_, ?_⟩
      · rw [List.length_map, List.length_map, List.length_take]
        exact sl_lt (by have := ok.f2; omega)
      · rw [upd_ne (ne_of_none e' hD)]
        exact s4 _ _ e'
      · rw [upd_same, List.take_add_one, efm, List.map_append, List.map_append]
        rfl
    obtain ⟨s3, hDa⟩ := hP
    rw [lf, List.take_length] at hDa
    have S3 := S2.trans s3
    have lfp : (n.fs.map (·.pt)).length = n.fs.length := List.length_map ..
    refine ⟨_, rfl, hl, rfl, ⟨_, SqL.of (S3 _ _ hha)⟩, fun Db hDb => ?_⟩
    refine lc_it (walk_list (K := K) (a := hl) (xs := hv)) (fun i H4 => Same H3 H4 ∧ H4 Db = some (.lst (((n.holds.take i).map fun h => fpt n.fs h.k).map V.int))) ⟨same_new hDb, upd_same⟩ (fun i H4 hi hP => SqL.of (hP.1 _ _ (S3 _ _ hha))) (fun i x' H4 H5 hi hP hy => ?_) (fun H4 hP => ?_)
    · obtain ⟨s4, hD4⟩ := hP
      obtain ⟨rfl, hx⟩ := hy
      obtain ⟨ha, xs, rfl, exs, hha'⟩ := hhs.get hx
      rw [List.getElem?_map] at exs
      obtain ⟨hh, eh, rfl⟩ := Option.map_eq_some_iff.mp exs
      have kl := (ok.ho hh (List.mem_of_getElem? eh)).1
      refine ⟨rfl, _, rfl, _, rfl, ha, _, 0, .int hh.k, rfl, rfl, SqT.of ((S3.trans s4) _ _ hha'), a0, Da, _, _, _, rfl, rfl, SqL.of (s4 _ _ hDa), ints_at (by omega), _, hD4, ?_, fun b' o' e' => ?_, ?_⟩
      · rw [List.length_map, List.length_map, List.length_take]
        exact sl_lt (by have := ok.h2; omega)
      · rw [upd_ne (ne_of_none e' hDb)]
        exact s4 _ _ e'
      · rw [upd_same, List.take_add_one, eh, List.map_append, List.map_append]
        rfl
    obtain ⟨s4, hDb'⟩ := hP
    rw [lh, List.take_length] at hDb'
    have S4 := S3.trans s4
    refine ⟨_, rfl, _, rfl, _, rfl, Da, _, _, _, rfl, rfl, SqL.of (s4 _ _ hDa), ints_at (by omega), _, rfl, _, rfl, (by show 3 ≤ sizeLine; decide), fun gv hgv => ?_⟩
    generalize hG : upd _ gv _ = G5
    obtain ⟨s5, h_gv⟩ := upd_gen hG hgv
    have S5 := S4.trans s5
    have lhp : (hpts n).length = n.holds.length := List.length_map ..
    refine ⟨rl, gv, rv, n.rows, fpt n.fs n.en, hpts n, n.fs.map FormP.pt, rfl, S5 _ _ hra, hrs.same S5, ⟨Db, Da, h_gv, s5 _ _ hDb', s5 _ _ (s4 _ _ hDa)⟩, ok.r1, ok.r2, fun i r e => by rw [lhp, lfp]; exact ok.ro i r e, ok.po, fun pl H6 s6 hpl h_pl => ?_⟩
    have S6 := S5.trans s6
    refine ⟨_, rfl, _, rfl, hl, rl, hv, rv, n.holds, n.rows, rfl, S6 _ _ hha, hhs.same S6, S6 _ _ hra, hrs.same S6, fun h hm => (ok.ho h hm).2.2, fun H7 s7 => ?_⟩
    have S7 := S6.trans s7
    replace h_pl := s7 _ _ h_pl
    refine ⟨_, rfl, _, rfl, rl, _, rfl, .inl (SqL.of (S7 _ _ hra)), _, _, rfl, by omega, by omega, _, rfl, iteF ?_⟩
    have hp0 := hp
    have n_pl : pl ≠ p := (ne_of_none (S5 _ _ hp) hpl).symm
    have nfl : fl ≠ p := ne_of hf hp (fun z => nomatch z)
    have nrl : rl ≠ p := ne_of hra hp (fun z => nomatch z)
    have nhl : hl ≠ p := ne_of hha hp (fun z => nomatch z)
    have B : SameBut p H H7 := .of S7
    replace hp := S7 _ _ hp
    clear s1 s2 s3 s4 s5 s6 s7 S2 S3 S4 S5 S6 S7 hDa hDb' h_gv hG hpl hD hDb hgv
    refine ⟨_, rfl, fl, _, rfl, .inl (SqL.of (B _ _ nfl hf)), fun f2 hf2 => ?_⟩
    have n_f2 : f2 ≠ p := (ne_of_none hp hf2).symm
    generalize hG : upd _ f2 _ = K1
    obtain ⟨s, h_f2⟩ := upd_gen hG hf2
    replace B := B.trans (.of s)
    replace hp := s _ _ hp
    replace h_pl := s _ _ h_pl
    clear hG s
    refine ⟨_, rfl, p, CN, dx, _, rfl, hp, TN.cl, TN.n_form_list, (by show 0 < 1000; decide), ?_⟩
    generalize hG : upd _ p _ = K2
    obtain ⟨s, hp'⟩ := upd_but hG
    replace B := B.trans s
    clear hp
    have hp := hp'
    clear hp'
    rw [nf0] at hp
    replace h_pl := s _ _ n_pl h_pl
    replace h_f2 := s _ _ n_f2 h_f2
    clear hG s
    refine ⟨_, rfl, _, rfl, p, CN, dx, _, rfl, hp, TN.cl, TN.n_enters_at, (by show 1 < 1000; decide), ?_⟩
    generalize hG : upd _ p _ = K3
    obtain ⟨s, hp'⟩ := upd_but hG
    replace B := B.trans s
    clear hp
    have hp := hp'
    clear hp'
    rw [nf1] at hp
    replace h_pl := s _ _ n_pl h_pl
    replace h_f2 := s _ _ n_f2 h_f2
    clear hG s
    refine ⟨_, rfl, rl, _, rfl, .inl (SqL.of (B _ _ nrl hra)), fun r2 hr2 => ?_⟩
    have n_r2 : r2 ≠ p := (ne_of_none hp hr2).symm
    generalize hG : upd _ r2 _ = K4
    obtain ⟨s, h_r2⟩ := upd_gen hG hr2
    replace B := B.trans (.of s)
    replace hp := s _ _ hp
    replace h_pl := s _ _ h_pl
    replace h_f2 := s _ _ h_f2
    clear hG s
    refine ⟨_, rfl, p, CN, dx, _, rfl, hp, TN.cl, TN.n_row_list, (by show 2 < 1000; decide), ?_⟩
    generalize hG : upd _ p _ = K5
    obtain ⟨s, hp'⟩ := upd_but hG
    replace B := B.trans s
    clear hp
    have hp := hp'
    clear hp'
    rw [nf2] at hp
    replace h_pl := s _ _ n_pl h_pl
    replace h_f2 := s _ _ n_f2 h_f2
    replace h_r2 := s _ _ n_r2 h_r2
    clear hG s
    refine ⟨_, rfl, hl, _, rfl, .inl (SqL.of (B _ _ nhl hha)), fun h2 hh2 => ?_⟩
    have n_h2 : h2 ≠ p := (ne_of_none hp hh2).symm
    generalize hG : upd _ h2 _ = K6
    obtain ⟨s, h_h2⟩ := upd_gen hG hh2
    replace B := B.trans (.of s)
    replace hp := s _ _ hp
    replace h_pl := s _ _ h_pl
    replace h_f2 := s _ _ h_f2
    replace h_r2 := s _ _ h_r2
    clear hG s
    refine ⟨_, rfl, p, CN, dx, _, rfl, hp, TN.cl, TN.n_hold_list, (by show 3 < 1000; decide), ?_⟩
    generalize hG : upd _ p _ = K7
    obtain ⟨s, hp'⟩ := upd_but hG
    replace B := B.trans s
    clear hp
    have hp := hp'
    clear hp'
    rw [nf3] at hp
    replace h_pl := s _ _ n_pl h_pl
    replace h_f2 := s _ _ n_f2 h_f2
    replace h_r2 := s _ _ n_r2 h_r2
    replace h_h2 := s _ _ n_h2 h_h2
    clear hG s
    refine ⟨_, rfl, _, rfl, p, CN, dx, _, rfl, hp, TN.cl, TN.n_out_at, (by show 4 < 1000; decide), ?_⟩
    generalize hG : upd _ p _ = K8
    obtain ⟨s, hp'⟩ := upd_but hG
    replace B := B.trans s
    clear hp
    have hp := hp'
    clear hp'
    rw [nf4] at hp
    replace h_pl := s _ _ n_pl h_pl
    replace h_f2 := s _ _ n_f2 h_f2
    replace h_r2 := s _ _ n_r2 h_r2
    replace h_h2 := s _ _ n_h2 h_h2
    clear hG s
    refine ⟨_, rfl, _, rfl, p, CN, dx, _, rfl, hp, TN.cl, TN.n_point_list, (by show 5 < 1000; decide), ?_⟩
    generalize hG : upd _ p _ = K9
    obtain ⟨s, hp'⟩ := upd_but hG
    replace B := B.trans s
    clear hp
    have hp := hp'
    clear hp'
    rw [nf5] at hp
    replace h_pl := s _ _ n_pl h_pl
    replace h_f2 := s _ _ n_f2 h_f2
    replace h_r2 := s _ _ n_r2 h_r2
    replace h_h2 := s _ _ n_h2 h_h2
    clear hG s
    exact q _ ⟨ok, dx, f2, r2, h2, pl, fv, rv, hv, hp, h_f2, FsAt.butI hfs B hp0, h_r2, hrs.mono (fun a xs e => B _ _ (ne_of e hp0 (fun z => nomatch z)) e), h_h2, hhs.mono (fun a xs e => B _ _ (ne_of e hp0 (fun z => nomatch z)) e), h_pl⟩ (fun b o nb e => B b o nb e)
end
end E1

namespace E1
open PySem PySem.Spec PyProof.Rows L2
/-! ### zip of a list and a tuple -/
def ItzM (K : PySem.W.Frag) (a b : Addr) : It where
  go i H := ∃ (xs ys : List V) (x y : V), (SqL K H a xs ∧ xs[i]? = some x) ∧ SqT K H b ys ∧ ys[i]? = some y
  yld i H v H' := ∃ T x y, (v = .ref T ∧ H T = none ∧ H' = upd H T (.tup [x, y])) ∧ (∀ xs, SqL K H a xs → xs[i]? = some x) ∧ ∀ ys, SqT K H b ys → ys[i]? = some y
  stop i H := ∃ xs ys : List V, (SqL K H a xs ∧ SqT K H b ys) ∧ (i = xs.length ∨ i = ys.length) ∧ i ≤ xs.length ∧ i ≤ ys.length
/-- the five cells of such a zip -/
structure ZpM (h : Heap) (z TI TO i1 i2 a b : Addr) (i : Nat) : Prop where
  zip : IsZip h z TI TO .none
  ti : IsPair h TI (.ref i1) (.ref i2)
  to : ∃ x y, IsPair h TO x y
  one : h.IsListIter i1 a i
  two : h.IsTupleIter i2 b i
theorem ZpM.cells {h : Heap} {z TI TO i1 i2 a b : Addr} {i : Nat} (s : ZpM h z TI TO i1 i2 a b i) : ∀ c ∈ [z, TI, TO, i1, i2], ∃ o, h.get? c = some o ∧ ∀ v, o.data ≠ .cell v := fun c hc => by
  obtain ⟨o1, e1, _, d1⟩ := s.one
  obtain ⟨o2, e2, _, d2⟩ := s.two
  obtain ⟨x, y, e3⟩ := s.to
  simp only [List.mem_cons, List.not_mem_nil, or_false] at hc
  rcases hc with rfl | rfl | rfl | rfl | rfl
  · exact ⟨_, s.zip, fun _ n => nomatch n⟩
  · exact ⟨_, s.ti, fun _ n => nomatch n⟩
  · exact ⟨_, e3, fun _ n => nomatch n⟩
  · exact ⟨o1, e1, fun _ n => nomatch d1.symm.trans n⟩
  · exact ⟨o2, e2, fun _ n => nomatch d2.symm.trans n⟩
theorem ZpM.sep {z TI TO i1 i2 a b : Addr} (D : ZipApart z TI TO i1 i2 a b) : ZipSep2 z TI TO i1 i2 [i1, a] [i2, b] := by
  constructor <;> first | exact D.TIz | exact D.TOz | exact D.TITO | exact D.TIi1 | exact D.TIi2 | skip
  all_goals simp only [List.mem_cons, List.not_mem_nil, or_false, true_or, not_or]
  · exact ⟨D.i1z.symm, D.l1z.symm⟩
  · exact ⟨D.TOi1, D.l1TO.symm⟩
  · exact ⟨D.i2z.symm, D.l2z.symm⟩
  · exact ⟨D.TOi2, D.l2TO.symm⟩
  · exact ⟨D.i12, D.l2i1.symm⟩
  · exact ⟨D.i12.symm, D.l1i2.symm⟩
theorem turn_zipM {P : Program} {w : World} {K : PySem.W.Frag} {elts : List Expr} {kk : Nat} {tpos : Pos} {a b z TI TO i1 i2 : Addr} (D : ZipApart z TI TO i1 i2 a b) : Turn P w K (.Tuple elts kk tpos) (ItzM K a b) [z, TI, TO, i1, i2] z (fun i h => ZpM h z TI TO i1 i2 a b i) := by
  have sp := ZpM.sep D
  refine ⟨List.mem_cons_self .., fun i h st => st.cells, fun i h h' st k => ?_, fun X hP hw hK hc i pins s σ H E I hf st hg => ?_, fun X hP hw hK hc i pins s σ H E I hf st hg => ?_, fun A i s Q E st h => wpAny_pyIter_zip st.zip h⟩
  · obtain ⟨x, y, e⟩ := st.to
    exact ⟨k z (by simp) _ st.zip, k TI (by simp) _ st.ti, ⟨x, y, k TO (by simp) _ e⟩, st.one.at fun o => k i1 (by simp) o, st.two.at fun o => k i2 (by simp) o⟩
  · subst hP hw hK
    obtain ⟨xs, ys, x, y, ⟨qx, ex⟩, qy, ey⟩ := hg
    obtain ⟨l1, rv1, p1, _⟩ := I.list qx
    obtain ⟨l2, rv2, p2, _⟩ := I.tuple qy
    obtain ⟨u1, eu1, ru1⟩ := rv1.get ex
    obtain ⟨u2, eu2, ru2⟩ := rv2.get ey
    obtain ⟨t1, t2, e3⟩ := st.to
    have hd : X.A.in1.handled = none := I.ok.hd hc
    have zl : z < s.heap.objs.size := Heap.lt_size st.zip
    have b1 : i < l1.toArray.size := by simpa using (List.getElem?_eq_some_iff.mp eu1).1
    have b2 : i < l2.toArray.size := by simpa using (List.getElem?_eq_some_iff.mp eu2).1
    refine wpAny_pyNext_zipD2_item sp (Draws.list hd i1 a D.l1i1 l1.toArray) (Draws.tuple hd i2 b D.l2i2 l2.toArray) st.zip st.ti e3 ⟨st.one, p1.isList⟩ ⟨st.two, p2⟩ b1 b2 fun v1 v2 h' tk y1 y2 z' to' s1 s2 hT hsz hk => ?_
    have ev1 : v1 = u1 := by
      have q : l1.toArray[i]? = some v1 := y1
      rw [List.getElem?_toArray, eu1] at q
      exact (Option.some.inj q).symm
    have ev2 : v2 = u2 := by
      have q : l2.toArray[i]? = some v2 := y2
      rw [List.getElem?_toArray, eu2] at q
      exact (Option.some.inj q).symm
    subst ev1 ev2
    refine ⟨_, rfl, wpAny_letOwnedTupleGo_zip (s := { s with heap := h', toks := tk }) z' fun g z'' sb => ?_⟩
    have nz : s.heap.objs.size ≠ z := Nat.ne_of_gt zl
    have lay : ObjOk X.prog X.w (upd H s.heap.objs.size (.tup [x, y])) g s.heap.objs.size (.tup [x, y]) := ⟨by show 2 ≤ sizeLine; decide, _, .cons ru1 (.cons ru2 .nil), ⟨_, (sb.2 _ nz).trans hT, rfl, _, rfl⟩⟩
    have far : ∀ c o, c ∉ [z, TI, TO, i1, i2] → s.heap.get? c = some o → g.get? c = some o := fun c o n e => by
      simp only [List.mem_cons, List.not_mem_nil, or_false, not_or] at n
      exact (sb.2 _ n.1).trans (hk c o n.1 n.2.2.1 n.2.2.2.1 n.2.2.2.2 e)
    have J : Inv X pins σ (upd H s.heap.objs.size (.tup [x, y])) { s with heap := g, toks := tk } := I.turnedNew (t' := tk) (ch := [z, TI, TO, i1, i2]) far hf (Nat.le_refl _) lay
    refine ⟨.ref s.heap.objs.size, _, J, rfl, ⟨_, x, y, ⟨rfl, I.hok.fresh (Nat.le_refl _), rfl⟩, fun l hl => (I.list_inj hl qx).symm ▸ ex, fun l hl => (I.tuple_inj hl qy).symm ▸ ey⟩, ⟨z'', ?_, ⟨_, _, (sb.2 _ D.TOz).trans to'⟩, s1.1.at fun o q => (sb.2 _ D.i1z).trans q, s2.1.at fun o q => (sb.2 _ D.i2z).trans q⟩, fun c hcm => ?_⟩
    · exact (sb.2 _ D.TIz).trans (hk _ _ D.TIz D.TITO D.TIi1 D.TIi2 st.ti)
    · obtain ⟨o, eo, _⟩ := st.cells c hcm
      rw [upd_ne (Nat.ne_of_lt (Heap.lt_size eo))]
      exact (hf c hcm).1
  · subst hP hw hK
    obtain ⟨xs, ys, ⟨qx, qy⟩, en, n1, n2⟩ := hg
    obtain ⟨l1, rv1, p1, _⟩ := I.list qx
    obtain ⟨l2, rv2, p2, _⟩ := I.tuple qy
    have e1 := rv1.length
    have e2 := rv2.length
    obtain ⟨t1, t2, e3⟩ := st.to
    have hd : X.A.in1.handled = none := I.ok.hd hc
    refine wpAny_pyNext_zipD2_end sp (Draws.list hd i1 a D.l1i1 l1.toArray) (Draws.tuple hd i2 b D.l2i2 l2.toArray) st.zip st.ti e3 ⟨st.one, p1.isList⟩ ⟨st.two, p2⟩ (by simp; omega) (by simp; omega) (by simp; omega) fun h' tk hk => ⟨rfl, I.turnedL (t' := tk) (ch := [z, TI, TO, i1, i2]) (fun c o n e => ?_) hf⟩
    simp only [List.mem_cons, List.not_mem_nil, or_false, not_or] at n
    exact hk c o n.1 n.2.2.1 n.2.2.2.1 n.2.2.2.2 e
def iZipM (K : PySem.W.Frag) (ta : TA) : TI := fun σ H R => ta σ H fun vs H1 => ∃ a b xs ys, vs = [.ref a, .ref b] ∧ SqL K H1 a xs ∧ SqT K H1 b ys ∧ R (ItzM K a b) H1
theorem pi_zipM {X : Cx} {e e2 : Expr} {ta : TA} {p pos tpos : Pos} {elts : List Expr} {kk : Nat} (hg : Gl X "zip") (hm : X.mg "zip" = none) (ha : PA X [e, e2] ta)
    (hs : starEach [e, e2] X.env = (false, eval e X.env) :: starEach [e2] X.env := by rfl) (hpl : (backTo pos (starEach [e2] X.env)).any (·.1) = false := by rfl) :
    PI X (.Tuple elts kk tpos) (.Call (.Name "zip" p) [e, e2] [] pos) (iZipM X.K ta) := by
  refine ⟨fun pins s σ H R I h => Call_ (ld_blt I hg hm PyProof.Rows.boot_zip (PyProof.Rows.callWith_type1 (thn (ha.run pos pins s σ H _ I h) fun us t ⟨vs, G, J, rv, q⟩ => ?_) hs hpl))⟩
  obtain ⟨a, b, xs, ys, rfl, qx, qy, q⟩ := q
  obtain ⟨u1, u2, rfl, r1, r2⟩ := vals2 rv
  cases r1
  cases r2
  obtain ⟨l1, _, p1, _⟩ := J.list qx
  obtain ⟨l2, _, p2, _⟩ := J.tuple qy
  obtain ⟨o2, e2', _⟩ := id p2
  refine zip_begins2 (begins_list a l1.toArray) (begins_tuple b l2.toArray) p1.isList p2 fun h' hz hTI hTO h1 h2 hsz hk => wpAny_pyIter_zip hz ?_
  refine ⟨_, [t.heap.objs.size + 4, t.heap.objs.size + 2, t.heap.objs.size + 3, t.heap.objs.size, t.heap.objs.size + 1], _, _, G, rfl, J.kept (t' := t.toks) hk, turn_zipM (PySem.W.ktu_apart t.heap.objs.size a b p1.lt (Heap.lt_size e2')), ⟨hz, hTI, ⟨_, _, hTO⟩, ⟨_, h1, rfl, rfl⟩, ⟨_, h2, rfl, rfl⟩⟩, fun c hc => ?_, q⟩
  have le : t.heap.objs.size ≤ c := by
    simp only [List.mem_cons, List.not_mem_nil, or_false] at hc
    rcases hc with rfl | rfl | rfl | rfl | rfl
    all_goals first | exact Nat.le_refl _ | exact Nat.le_add_right _ _
  exact J.fpOk le (J.hok.fresh le)
theorem walk_zipM {K : PySem.W.Frag} {a b : Addr} {xs ys : List V} (hl : xs.length = ys.length) : Walk (ItzM K a b) xs.length (fun H => SqL K H a xs ∧ SqT K H b ys) (YPair (fun i => xs[i]?) (fun i => ys[i]?)) := by
  refine ⟨fun i H hi q => ⟨xs, ys, xs[i], ys[i]'(by omega), ⟨q.1, by simp [hi]⟩, q.2, by simp [show i < ys.length by omega]⟩, fun H q => ⟨xs, ys, q, .inl rfl, Nat.le_refl _, Nat.le_of_eq hl⟩, fun i H v H' _ q y => ?_⟩
  obtain ⟨T, l, r, ⟨e1, e2, e3⟩, gl, gr⟩ := y
  exact ⟨T, l, r, e1, e2, e3, gl _ q.1, gr _ q.2⟩
end E1

namespace E1
open PySem PySem.Spec PyProof.Rows L2
/-! ### the numbers of a turn -/
instance : Inhabited FormP := ⟨⟨none, 0, .down, false⟩⟩
def frm (fs : List FormP) (k : Nat) : FormP := fs.getD k default
/-- lists grown one by one -/
def accL (g : List Int → Row → Int) (rows : List Row) : List Int := rows.foldl (fun a r => a ++ [g a r]) []
theorem accL_snoc (g : List Int → Row → Int) (rows : List Row) (r : Row) : accL g (rows ++ [r]) = accL g rows ++ [g (accL g rows) r] := by
  unfold accL
  rw [List.foldl_append]
  rfl
theorem accL_len (g : List Int → Row → Int) (rows : List Row) : (accL g rows).length = rows.length := by
  have key : ∀ (rows : List Row) (acc : List Int), (rows.foldl (fun a r => a ++ [g a r]) acc).length = acc.length + rows.length := by
    intro rows
    induction rows with
    | nil => exact fun acc => rfl
    | cons r rs ih =>
      intro acc
      rw [List.foldl_cons, ih]
      simp only [List.length_append, List.length_cons, List.length_nil]
      omega
  have := key rows []
  rw [List.length_nil, Nat.zero_add] at this
  exact this
theorem accL_pre (g : List Int → Row → Int) (a b : List Row) : ∃ t, accL g (a ++ b) = accL g a ++ t := by
  have key : ∀ (b : List Row) (acc : List Int), ∃ t, b.foldl (fun a r => a ++ [g a r]) acc = acc ++ t := by
    intro b
    induction b with
    | nil => exact fun acc => ⟨[], (List.append_nil _).symm⟩
    | cons r rs ih =>
      intro acc
      obtain ⟨t, e⟩ := ih (acc ++ [g acc r])
      exact ⟨[g acc r] ++ t, by rw [List.foldl_cons, e, List.append_assoc]⟩
  obtain ⟨t, e⟩ := key b (accL g a)
  refine ⟨t, ?_⟩
  rw [← e]
  unfold accL
  rw [List.foldl_append]
theorem accL_take (g : List Int → Row → Int) (rows : List Row) (i : Nat) : (accL g rows).take i = accL g (rows.take i) := by
  by_cases h : i ≤ rows.length
  · obtain ⟨t, e⟩ := accL_pre g (rows.take i) (rows.drop i)
    rw [List.take_append_drop] at e
    rw [e, List.take_append_of_le_length (by rw [accL_len, List.length_take]; omega), List.take_of_length_le (by rw [accL_len, List.length_take]; omega)]
  · rw [List.take_of_length_le (by rw [accL_len]; omega), List.take_of_length_le (by omega)]
theorem accL_next {g : List Int → Row → Int} {rows : List Row} {i : Nat} {r : Row} (h : rows[i]? = some r) : accL g (rows.take (i + 1)) = accL g (rows.take i) ++ [g (accL g (rows.take i)) r] := by
  rw [List.take_add_one, h, Option.toList_some, accL_snoc]
theorem accL_at {g : List Int → Row → Int} {rows : List Row} {i : Nat} {r : Row} (h : rows[i]? = some r) : (accL g rows)[i]? = some (g (accL g (rows.take i)) r) := by
  have hl := (List.getElem?_eq_some_iff.mp h).1
  have e := accL_take g rows (i + 1)
  rw [accL_next h] at e
  have e2 := congrArg (fun l => l[i]?) e
  simp only [List.getElem?_take] at e2
  rw [if_pos (Nat.lt_succ_self i)] at e2
  rw [e2, List.getElem?_append_right (by rw [accL_len, List.length_take]; omega), accL_len, List.length_take, Nat.min_eq_left (Nat.le_of_lt hl), Nat.sub_self]
  rfl
theorem ptsOf_acc (en : Int) (hp fp : List Int) (rows : List Row) : ptsOf en hp fp rows = accL (rowPt en hp fp) rows := rfl
/-- a row's number, from the numbers ahead and the points -/
def sumN (pts nums : List Int) (a b : Nat) (sg : Int) : Int :=
  let x := pts.getD a 0; let y := pts.getD b 0; let p := if y > x then y else x
  nums.getD a 0 * 2 ^ (p - x).toNat + sg * (nums.getD b 0 * 2 ^ (p - y).toNat)
def numRow (fs : List FormP) (pts : List Int) (x : Int) (st nums : List Int) : Row → Int
  | .inn => x
  | .old k => st.getD k 0
  | .times f _ a => f * nums.getD a 0
  | .plus a b => sumN pts nums a b 1
  | .less a b => sumN pts nums a b (-1)
  | .move _ a => nums.getD a 0
  | .keep f a => let F := frm fs f; wordF F.w F.st (stepsAt F.pt F.m (nums.getD a 0) (pts.getD a 0))
def NetP.nums (n : NetP) (x : Int) (st : List Int) : List Int := accL (numRow n.fs n.pts x st) n.rows
/-! ### sizes -/
def SzN (i : Nat) : Nat := 70 + 600 * i
theorem abs_mul_lt {x y : Int} {a b : Nat} (hx : x.natAbs < 2 ^ a) (hy : y.natAbs < 2 ^ b) : (x * y).natAbs < 2 ^ (a + b) := by
  rw [Int.natAbs_mul, Nat.pow_add]
  exact Nat.mul_lt_mul'' hx hy
theorem abs_add_lt {x y : Int} {a : Nat} (hx : x.natAbs < 2 ^ a) (hy : y.natAbs < 2 ^ a) : (x + y).natAbs < 2 ^ (a + 1) := by
  rw [Nat.pow_succ]
  generalize 2 ^ a = N at *
  omega
theorem div_abs (t b : Int) : (t / b).natAbs ≤ t.natAbs := Int.natAbs_ediv_le_natAbs _ _
theorem half_abs {t b : Int} (hb : 0 < b) : (fHalf t b).natAbs ≤ t.natAbs + 1 := by
  rw [fHalf_is hb]
  have := div_abs t b
  split <;> omega
theorem rnd_abs (m : Mn) {t b : Int} (hb : 0 < b) : (m.f t b).natAbs ≤ t.natAbs + 2 := by
  have h1 := div_abs t b
  have h2 := div_abs (-t) b
  have h3 := half_abs (t := t) hb
  have h4 := half_abs (t := -t) hb
  cases m with
  | down => show (fDown t b).natAbs ≤ _; unfold fDown; omega
  | up => show (fUp t b).natAbs ≤ _; unfold fUp; omega
  | inn => show (fIn t b).natAbs ≤ _; unfold fIn fDown fUp; split <;> omega
  | out => show (fOut t b).natAbs ≤ _; unfold fOut fDown fUp; split <;> omega
  | half => show (fHalf t b).natAbs ≤ _; omega
  | even => show (fEven t b).natAbs ≤ _; unfold fEven; split <;> omega
  | far => show (fFar t b).natAbs ≤ _; unfold fFar; split <;> omega
theorem steps_lt {pt p n : Int} {m : Mn} {a : Nat} (hn : n.natAbs < 2 ^ a) (h0 : -64 ≤ pt) (h1 : pt ≤ 64) (p0 : -200 ≤ p) (p1 : p ≤ 200) : (stepsAt pt m n p).natAbs < 2 ^ (a + 300) := by
  unfold stepsAt
  split
  · refine Nat.lt_of_lt_of_le (abs_mul_lt hn (two_pow_lt (k := (pt - p).toNat) (n := 299) (by omega))) (Nat.pow_le_pow_right (by decide) (by omega))
  · have := rnd_abs m (t := n) (two_pow_pos (p - pt).toNat)
    have e : 2 ^ (a + 300) = 2 ^ a * 2 ^ 300 := Nat.pow_add ..
    have one : 0 < 2 ^ a := Nat.pow_pos (by decide)
    have big : 4 ≤ 2 ^ 300 := by decide
    have : 2 ^ a * 4 ≤ 2 ^ a * 2 ^ 300 := Nat.mul_le_mul_left _ big
    omega
theorem two_lt64 {y : Int} (h0 : 2 ≤ y) (h1 : y ≤ 64) : (two y).natAbs ≤ 2 ^ 64 := by
  unfold two
  rw [Int.natAbs_pow]
  exact Nat.pow_le_pow_right (by decide) (by omega)
theorem word_abs (w : Option Int) (st : Bool) (n : Int) (hw : WOk w) : (wordF w st n).natAbs ≤ n.natAbs ∨ (wordF w st n).natAbs < 2 ^ 70 := by
  unfold wordF
  cases w with
  | none => exact .inl (Nat.le_refl _)
  | some y =>
    obtain ⟨y0, y1⟩ := hw y rfl
    have t1 : (two (y - 1)).natAbs ≤ 2 ^ 64 := by
      unfold two
      rw [Int.natAbs_pow]
      exact Nat.pow_le_pow_right (by decide) (by omega)
    have t2 := two_lt64 y0 y1
    have p1 := two_pos (y - 1)
    have p2 := two_pos y
    have b1 : (2 : Nat) ^ 70 = 2 ^ 64 * 64 := by decide
    have m0 := Int.emod_nonneg (n - lst y) (show two y ≠ 0 by omega)
    have m1 := Int.emod_lt_of_pos (n - lst y) p2
    by_cases h : inR (some y) n = true
    · left
      show (if inR (some y) n = true then n else if st = true then (if n < 0 then lst y else grt y) else (n - lst y) % two y + lst y).natAbs ≤ n.natAbs
      rw [if_pos h]
      exact Nat.le_refl _
    · right
      rw [b1]
      show (if inR (some y) n = true then n else if st = true then (if n < 0 then lst y else grt y) else (n - lst y) % two y + lst y).natAbs < _
      rw [if_neg h]
      unfold lst grt at *
      generalize (2 : Nat) ^ 64 = N at *
      generalize two (y - 1) = u at *
      generalize two y = v at *
      generalize (n - -u) % v = r at *
      split
      · split <;> omega
      · omega
structure NumSm (n : NetP) (x : Int) (st : List Int) : Prop where
  x : x.natAbs < 2 ^ 70
  st : ∀ k ∈ st, k.natAbs < 2 ^ 70
theorem getD_lt {l : List Int} {N i : Nat} (h : ∀ k ∈ l, k.natAbs < N) (hN : 0 < N) : (l.getD i 0).natAbs < N := by
  rw [List.getD_eq_getElem?_getD]
  cases e : l[i]? with
  | none => exact hN
  | some k => exact h k (List.mem_of_getElem? e)
theorem num_lt {n : NetP} (ok : NetOk n) {x : Int} {st : List Int} (ko : NumSm n x st) : ∀ i, i ≤ n.rows.length → ∀ k ∈ accL (numRow n.fs n.pts x st) (n.rows.take i), k.natAbs < 2 ^ SzN i := by
  intro i
  induction i with
  | zero => intro _ k hk; cases hk
  | succ i ih =>
    intro hi k hk
    obtain ⟨r, er⟩ : ∃ r, n.rows[i]? = some r := ⟨_, List.getElem?_eq_getElem (by omega)⟩
    rw [accL_next er] at hk
    have ih' := ih (by omega)
    have lp : 0 < 2 ^ SzN i := Nat.pow_pos (by decide)
    have wide : ∀ {y a : Nat}, y < 2 ^ a → a ≤ SzN (i + 1) → y < 2 ^ SzN (i + 1) := fun h l => up h l
    have sz : SzN (i + 1) = SzN i + 600 := rfl
    have s70 : 70 ≤ SzN i := Nat.le_add_right _ _
    rcases List.mem_append.mp hk with hk | hk
    · exact wide (ih' k hk) (by omega)
    rw [List.mem_singleton.mp hk]
    have at' : ∀ a, ((accL (numRow n.fs n.pts x st) (n.rows.take i)).getD a 0).natAbs < 2 ^ SzN i := fun a => getD_lt ih' lp
    have pp : ∀ a, -200 ≤ n.pts.getD a 0 ∧ n.pts.getD a 0 ≤ 200 := fun a => by
      rw [List.getD_eq_getElem?_getD]
      cases e : n.pts[a]? with
      | none => exact ⟨by decide, by decide⟩
      | some k => exact ok.po k (List.mem_of_getElem? e)
    have sums : ∀ a b sg, (sg = 1 ∨ sg = -1) → (sumN n.pts (accL (numRow n.fs n.pts x st) (n.rows.take i)) a b sg).natAbs < 2 ^ SzN (i + 1) := fun a b sg hs => by
      obtain ⟨a0, a1⟩ := pp a
      obtain ⟨b0, b1⟩ := pp b
      unfold sumN
      have k1 : ∀ c, ((if n.pts.getD b 0 > n.pts.getD a 0 then n.pts.getD b 0 else n.pts.getD a 0) - n.pts.getD c 0).toNat < 401 := fun c => by
        obtain ⟨c0, c1⟩ := pp c
        split <;> omega
      have x1 := abs_mul_lt (at' a) (two_pow_lt (k1 a))
      have x2 := abs_mul_lt (at' b) (two_pow_lt (k1 b))
      refine wide (abs_add_lt x1 ?_) (by omega)
      rcases hs with rfl | rfl
      · rw [Int.one_mul]
        exact x2
      · rw [Int.neg_mul, Int.one_mul, Int.natAbs_neg]
        exact x2
    have ro := ok.ro i r er
    match r, ro with
    | .inn, _ => exact wide ko.x (by omega)
    | .old k, _ => exact wide (getD_lt ko.st (by decide)) (by omega)
    | .times f m a, h => exact wide (abs_mul_lt (show f.natAbs < 2 ^ 63 from h.1) (at' a)) (by omega)
    | .plus a b, _ => exact sums a b 1 (.inl rfl)
    | .less a b, _ => exact sums a b (-1) (.inr rfl)
    | .move m a, _ => exact wide (at' a) (by omega)
    | .keep f a, h =>
      obtain ⟨p0, p1⟩ := pp a
      have fo : (frm n.fs f).Ok := by
        have e : frm n.fs f = n.fs[f]'h.1 := by
          unfold frm
          rw [List.getD_eq_getElem?_getD, List.getElem?_eq_getElem h.1]
          rfl
        rw [e]
        exact ok.fo _ (List.getElem_mem _)
      have s1 := steps_lt (m := (frm n.fs f).m) (at' a) fo.p0 fo.p1 p0 p1
      rcases word_abs (frm n.fs f).w (frm n.fs f).st (stepsAt (frm n.fs f).pt (frm n.fs f).m ((accL (numRow n.fs n.pts x st) (n.rows.take i)).getD a 0) (n.pts.getD a 0)) fo.wo with h | h
      · exact wide (Nat.lt_of_le_of_lt h s1) (by omega)
      · exact wide h (by omega)

/-- all numbers of a turn are of a size that can be reckoned with -/
def NumOk (n : NetP) (x : Int) (st : List Int) : Prop := ∀ k ∈ n.nums x st, k.natAbs < 2 ^ 900000
theorem NumOk.pre {n : NetP} {x : Int} {st : List Int} (h : NumOk n x st) {i : Nat} {k : Int} (hk : k ∈ accL (numRow n.fs n.pts x st) (n.rows.take i)) : k.natAbs < 2 ^ 900000 := by
  rw [← accL_take] at hk
  exact h k (List.mem_of_mem_take hk)
def Row.small : Row → Prop
  | .times f _ _ => f.natAbs ≤ 9
  | _ => True
/-- a net whose numbers grow slowly -/
structure Calm (n : NetP) : Prop where
  rs : ∀ r ∈ n.rows, r.small
  ps : ∀ p ∈ n.pts, -48 ≤ p ∧ p ≤ 48
  fs : ∀ f ∈ n.fs, -7 ≤ f.pt ∧ f.pt ≤ 7
  ln : n.rows.length ≤ 27
def Mild (n : NetP) : Prop := (∀ f ∈ n.fs, f.w ≠ none) ∨ Calm n
theorem steps_lt2 {pt p n : Int} {m : Mn} {a : Nat} (hn : n.natAbs < 2 ^ a) (h0 : -7 ≤ pt) (h1 : pt ≤ 7) (p0 : -48 ≤ p) (p1 : p ≤ 48) : (stepsAt pt m n p).natAbs < 2 ^ (a + 60) := by
  unfold stepsAt
  split
  · refine Nat.lt_of_lt_of_le (abs_mul_lt hn (two_pow_lt (k := (pt - p).toNat) (n := 59) (by omega))) (Nat.pow_le_pow_right (by decide) (by omega))
  · have := rnd_abs m (t := n) (two_pow_pos (p - pt).toNat)
    have e : 2 ^ (a + 60) = 2 ^ a * 2 ^ 60 := Nat.pow_add ..
    have one : 0 < 2 ^ a := Nat.pow_pos (by decide)
    have big : 4 ≤ 2 ^ 60 := by decide
    have : 2 ^ a * 4 ≤ 2 ^ a * 2 ^ 60 := Nat.mul_le_mul_left _ big
    omega
theorem num_calm {n : NetP} (ok : NetOk n) (cm : Calm n) {x : Int} {st : List Int} {s : Nat} (s70 : 70 ≤ s) (hx : x.natAbs < 2 ^ 70) (hst : ∀ k ∈ st, k.natAbs < 2 ^ s) : ∀ i, i ≤ n.rows.length → ∀ k ∈ accL (numRow n.fs n.pts x st) (n.rows.take i), k.natAbs < 2 ^ (s + 100 * i) := by
  intro i
  induction i with
  | zero => intro _ k hk; cases hk
  | succ i ih =>
    intro hi k hk
    obtain ⟨r, er⟩ : ∃ r, n.rows[i]? = some r := ⟨_, List.getElem?_eq_getElem (by omega)⟩
    rw [accL_next er] at hk
    have ih' := ih (by omega)
    have lp : 0 < 2 ^ (s + 100 * i) := Nat.pow_pos (by decide)
    have wide : ∀ {y a : Nat}, y < 2 ^ a → a ≤ s + 100 * (i + 1) → y < 2 ^ (s + 100 * (i + 1)) := fun h l => up h l
    rcases List.mem_append.mp hk with hk | hk
    · exact wide (ih' k hk) (by omega)
    rw [List.mem_singleton.mp hk]
    have at' : ∀ a, ((accL (numRow n.fs n.pts x st) (n.rows.take i)).getD a 0).natAbs < 2 ^ (s + 100 * i) := fun a => getD_lt ih' lp
    have pp : ∀ a, -48 ≤ n.pts.getD a 0 ∧ n.pts.getD a 0 ≤ 48 := fun a => by
      rw [List.getD_eq_getElem?_getD]
      cases e : n.pts[a]? with
      | none => exact ⟨by decide, by decide⟩
      | some k => exact cm.ps k (List.mem_of_getElem? e)
    have sums : ∀ a b sg, (sg = 1 ∨ sg = -1) → (sumN n.pts (accL (numRow n.fs n.pts x st) (n.rows.take i)) a b sg).natAbs < 2 ^ (s + 100 * (i + 1)) := fun a b sg hs => by
      obtain ⟨a0, a1⟩ := pp a
      obtain ⟨b0, b1⟩ := pp b
      unfold sumN
      have k1 : ∀ c, ((if n.pts.getD b 0 > n.pts.getD a 0 then n.pts.getD b 0 else n.pts.getD a 0) - n.pts.getD c 0).toNat < 97 := fun c => by
        obtain ⟨c0, c1⟩ := pp c
        split <;> omega
      have x1 := abs_mul_lt (at' a) (two_pow_lt (k1 a))
      have x2 := abs_mul_lt (at' b) (two_pow_lt (k1 b))
      refine wide (abs_add_lt x1 ?_) (by omega)
      rcases hs with rfl | rfl
      · rw [Int.one_mul]
        exact x2
      · rw [Int.neg_mul, Int.one_mul, Int.natAbs_neg]
        exact x2
    have ro := ok.ro i r er
    have rs := cm.rs r (List.mem_of_getElem? er)
    match r, ro, rs with
    | .inn, _, _ => exact wide hx (by omega)
    | .old k, _, _ => exact wide (getD_lt hst (Nat.pow_pos (by decide))) (by omega)
    | .times f m a, h, rs => exact wide (abs_mul_lt (show f.natAbs < 2 ^ 4 from Nat.lt_of_le_of_lt rs (by decide)) (at' a)) (by omega)
    | .plus a b, _, _ => exact sums a b 1 (.inl rfl)
    | .less a b, _, _ => exact sums a b (-1) (.inr rfl)
    | .move m a, _, _ => exact wide (at' a) (by omega)
    | .keep f a, h, _ =>
      obtain ⟨p0, p1⟩ := pp a
      have e : frm n.fs f = n.fs[f]'h.1 := by
        unfold frm
        rw [List.getD_eq_getElem?_getD, List.getElem?_eq_getElem h.1]
        rfl
      have fo : (frm n.fs f).Ok := by
        rw [e]
        exact ok.fo _ (List.getElem_mem _)
      have ff : -7 ≤ (frm n.fs f).pt ∧ (frm n.fs f).pt ≤ 7 := by
        rw [e]
        exact cm.fs _ (List.getElem_mem _)
      have s1 := steps_lt2 (m := (frm n.fs f).m) (at' a) ff.1 ff.2 p0 p1
      rcases word_abs (frm n.fs f).w (frm n.fs f).st (stepsAt (frm n.fs f).pt (frm n.fs f).m ((accL (numRow n.fs n.pts x st) (n.rows.take i)).getD a 0) (n.pts.getD a 0)) fo.wo with h | h
      · exact wide (Nat.lt_of_le_of_lt h s1) (by omega)
      · exact wide h (by omega)
theorem all_take {n : NetP} {x : Int} {st : List Int} {N : Nat} (h : ∀ k ∈ accL (numRow n.fs n.pts x st) (n.rows.take n.rows.length), k.natAbs < N) : ∀ k ∈ n.nums x st, k.natAbs < N := fun k hk => h k (by
  rw [List.take_length]
  exact hk)
end E1

namespace E1
open PySem PySem.Spec PyProof.Rows L2

def NIs (C CN : Addr) (H : Hp) (p : Addr) (n : NetP) : Prop := NetAt C CN H p n
/-- a method of a net that tells a new list -/
def spFormsM (C CN : Addr) : Sp := fun vs H Q _ => ∃ (p : Addr) (n : NetP), vs = [.ref p] ∧ NetAt C CN H p n ∧ ∀ l fv H', H l = none → Same H H' → H' l = some (.lst fv) → FsAt C H' fv n.fs → Q (.ref l) H'
def spRowsM (C CN : Addr) : Sp := fun vs H Q _ => ∃ (p : Addr) (n : NetP), vs = [.ref p] ∧ NetAt C CN H p n ∧ ∀ l rv H', H l = none → Same H H' → H' l = some (.lst rv) → TsAt H' rv (n.rows.map Row.vs) → Q (.ref l) H'
def spHoldsM (C CN : Addr) : Sp := fun vs H Q _ => ∃ (p : Addr) (n : NetP), vs = [.ref p] ∧ NetAt C CN H p n ∧ ∀ l hv H', H l = none → Same H H' → H' l = some (.lst hv) → TsAt H' hv (n.holds.map Hold.vs) → Q (.ref l) H'
def spPtsM (C CN : Addr) : Sp := fun vs H Q _ => ∃ (p : Addr) (n : NetP), vs = [.ref p] ∧ NetAt C CN H p n ∧ ∀ l H', H l = none → Same H H' → H' l = some (.lst (n.pts.map V.int)) → Q (.ref l) H'
def spEnM (C CN : Addr) : Sp := fun vs H Q _ => ∃ (p : Addr) (n : NetP), vs = [.ref p] ∧ NetAt C CN H p n ∧ Q (.int n.en) H
def spEnterForm (C CN : Addr) : Sp := fun vs H Q _ => ∃ (p : Addr) (n : NetP), vs = [.ref p] ∧ NetAt C CN H p n ∧ ∀ q H', Same H H' → FAt C H' q (frm n.fs n.en) → Q (.ref q) H'
def spSumNum : Sp := fun vs H Q _ => ∃ (ra na pa : Addr) (r : Row) (a b : Nat) (sg : Int) (nums pts : List Int), vs = [.ref ra, .ref na, .ref pa] ∧ H ra = some (.tup r.vs) ∧ ((r = .plus a b ∧ sg = 1) ∨ (r = .less a b ∧ sg = -1)) ∧ H na = some (.lst (nums.map V.int)) ∧ H pa = some (.lst (pts.map V.int)) ∧ a < nums.length ∧ b < nums.length ∧ nums.length ≤ pts.length ∧ (∀ k ∈ nums, k.natAbs < 2 ^ 900000) ∧ (∀ p ∈ pts, -200 ≤ p ∧ p ≤ 200) ∧ Q (.int (sumN pts nums a b sg)) H
def spNumRow (C : Addr) : Sp := fun vs H Q _ => ∃ (ra na fa pa : Addr) (r : Row) (fv : List V) (fs : List FormP) (hc : Nat) (x : Int) (st nums pts : List Int), vs = [.ref ra, .ref na, .ref fa, .ref pa] ∧ H ra = some (.tup r.vs) ∧ r.kd ≠ .inn ∧ r.kd ≠ .old ∧ H na = some (.lst (nums.map V.int)) ∧ H fa = some (.lst fv) ∧ FsAt C H fv fs ∧ H pa = some (.lst (pts.map V.int)) ∧ RowOk hc fs.length nums.length r ∧ nums.length ≤ pts.length ∧ (∀ k ∈ nums, k.natAbs < 2 ^ 900000) ∧ (∀ p ∈ pts, -200 ≤ p ∧ p ≤ 200) ∧
  ∀ H', Same H H' → Q (.int (numRow fs pts x st nums r)) H'
def spSwept (C CN fR : Addr) : Sp := fun vs H Q _ => ∃ (p sa : Addr) (n : NetP) (x : Int) (st : List Int), vs = [.ref p, .int x, .ref sa, .ref fR] ∧ NetAt C CN H p n ∧ H sa = some (.tup (st.map V.int)) ∧ st.length = n.holds.length ∧ NumOk n x st ∧ ∀ l H', H l = none → Same H H' → H' l = some (.lst ((n.nums x st).map V.int)) → Q (.ref l) H'
/-- a state of a net -/
structure StOk (n : NetP) (st : List Int) : Prop where
  len : st.length = n.holds.length
  inr : ∀ (i : Nat) (h : Hold) (k : Int), n.holds[i]? = some h → st[i]? = some k → inR (frm n.fs h.k).w k = true
def spIsState (C CN : Addr) : Sp := fun vs H Q _ => ∃ (p sa : Addr) (n : NetP) (st : List Int), vs = [.ref p, .ref sa] ∧ NetAt C CN H p n ∧ H sa = some (.tup (st.map V.int)) ∧ StOk n st ∧ ∀ H', Same H H' → Q (.bl true) H'
def spCkState (C CN : Addr) : Sp := fun vs H Q _ => ∃ (p sa : Addr) (n : NetP) (st : List Int), vs = [.ref p, .ref sa] ∧ NetAt C CN H p n ∧ H sa = some (.tup (st.map V.int)) ∧ StOk n st ∧ ∀ H', Same H H' → Q .non H'
def spCkWord (C CN : Addr) : Sp := fun vs H Q _ => ∃ (p : Addr) (n : NetP) (x : Int), vs = [.ref p, .int x] ∧ NetAt C CN H p n ∧ inR (frm n.fs n.en).w x = true ∧ ∀ H', Same H H' → Q .non H'
def NetP.behind (n : NetP) (nums : List Int) : List Int := n.holds.map fun h => nums.getD h.l 0
def spBehind (C CN : Addr) : Sp := fun vs H Q _ => ∃ (p na : Addr) (n : NetP) (nums : List Int), vs = [.ref p, .ref na] ∧ NetAt C CN H p n ∧ H na = some (.lst (nums.map V.int)) ∧ nums.length = n.rows.length ∧ ∀ t H', H t = none → Same H H' → H' t = some (.tup ((n.behind nums).map V.int)) → Q (.ref t) H'
/-- what a turn tells: a new tuple of a new list and a new tuple -/
def TurnOut (H : Hp) (Q : VK) (ns st' : List Int) : Prop := ∀ t l s H', Same H H' → H t = none → H l = none → H s = none → H' t = some (.tup [.ref l, .ref s]) → H' l = some (.lst (ns.map V.int)) → H' s = some (.tup (st'.map V.int)) → Q (.ref t) H'
def spTurnOf (C CN : Addr) : Sp := fun vs H Q _ => ∃ (p sa : Addr) (n : NetP) (x : Int) (st : List Int), vs = [.ref p, .ref sa, .int x] ∧ NetAt C CN H p n ∧ H sa = some (.tup (st.map V.int)) ∧ st.length = n.holds.length ∧ NumOk n x st ∧ TurnOut H Q (n.nums x st) (n.behind (n.nums x st))
def spTurned (C CN : Addr) : Sp := fun vs H Q _ => ∃ (p sa : Addr) (n : NetP) (x : Int) (st : List Int), vs = [.ref p, .ref sa, .int x] ∧ NetAt C CN H p n ∧ H sa = some (.tup (st.map V.int)) ∧ StOk n st ∧ inR (frm n.fs n.en).w x = true ∧ NumOk n x st ∧ TurnOut H Q (n.nums x st) (n.behind (n.nums x st))
section
variable {fl : Addr} {en : Int} {rl hl : Addr} {out : Int} {pl : Addr}
theorem fks_ne : ∀ i j : Fin 6, i ≠ j → ((fks[i.val]'i.isLt) == (fks[j.val]'j.isLt)) = false := by decide +kernel
theorem nl_f : (nflds fl en rl hl out pl).lookup ("form_list" : Str) = some (.ref fl) := by
  unfold nflds
  rw [List.lookup_cons, beq_self_eq_true]
theorem nl_e : (nflds fl en rl hl out pl).lookup ("enters_at" : Str) = some (.int en) := by
  unfold nflds
  rw [List.lookup_cons, show (("enters_at" : Str) == "form_list") = false from fks_ne 1 0 (by decide), List.lookup_cons, beq_self_eq_true]
theorem nl_r : (nflds fl en rl hl out pl).lookup ("row_list" : Str) = some (.ref rl) := by
  unfold nflds
  rw [List.lookup_cons, show (("row_list" : Str) == "form_list") = false from fks_ne 2 0 (by decide), List.lookup_cons, show (("row_list" : Str) == "enters_at") = false from fks_ne 2 1 (by decide), List.lookup_cons, beq_self_eq_true]
theorem nl_h : (nflds fl en rl hl out pl).lookup ("hold_list" : Str) = some (.ref hl) := by
  unfold nflds
  rw [List.lookup_cons, show (("hold_list" : Str) == "form_list") = false from fks_ne 3 0 (by decide), List.lookup_cons, show (("hold_list" : Str) == "enters_at") = false from fks_ne 3 1 (by decide), List.lookup_cons, show (("hold_list" : Str) == "row_list") = false from fks_ne 3 2 (by decide), List.lookup_cons, beq_self_eq_true]
theorem nl_o : (nflds fl en rl hl out pl).lookup ("out_at" : Str) = some (.int out) := by
  unfold nflds
  rw [List.lookup_cons, show (("out_at" : Str) == "form_list") = false from fks_ne 4 0 (by decide), List.lookup_cons, show (("out_at" : Str) == "enters_at") = false from fks_ne 4 1 (by decide), List.lookup_cons, show (("out_at" : Str) == "row_list") = false from fks_ne 4 2 (by decide), List.lookup_cons, show (("out_at" : Str) == "hold_list") = false from fks_ne 4 3 (by decide), List.lookup_cons, beq_self_eq_true]
theorem nl_p : (nflds fl en rl hl out pl).lookup ("point_list" : Str) = some (.ref pl) := by
  unfold nflds
  rw [List.lookup_cons, show (("point_list" : Str) == "form_list") = false from fks_ne 5 0 (by decide), List.lookup_cons, show (("point_list" : Str) == "enters_at") = false from fks_ne 5 1 (by decide), List.lookup_cons, show (("point_list" : Str) == "row_list") = false from fks_ne 5 2 (by decide), List.lookup_cons, show (("point_list" : Str) == "hold_list") = false from fks_ne 5 3 (by decide), List.lookup_cons, show (("point_list" : Str) == "out_at") = false from fks_ne 5 4 (by decide), List.lookup_cons, beq_self_eq_true]
theorem nl_no {x : Str} (h : (fks.map fun k => x == k) = [false, false, false, false, false, false]) : (nflds fl en rl hl out pl).lookup x = none := by
  have e : ∀ i : Nat, (fks.map fun k => x == k)[i]? = [false, false, false, false, false, false][i]? := fun i => by rw [h]
  have h0 : (x == ("form_list" : Str)) = false := Option.some.inj (e 0)
  have h1 : (x == ("enters_at" : Str)) = false := Option.some.inj (e 1)
  have h2 : (x == ("row_list" : Str)) = false := Option.some.inj (e 2)
  have h3 : (x == ("hold_list" : Str)) = false := Option.some.inj (e 3)
  have h4 : (x == ("out_at" : Str)) = false := Option.some.inj (e 4)
  have h5 : (x == ("point_list" : Str)) = false := Option.some.inj (e 5)
  unfold nflds
  rw [List.lookup_cons, h0, List.lookup_cons, h1, List.lookup_cons, h2, List.lookup_cons, h3, List.lookup_cons, h4, List.lookup_cons, h5]
  rfl
end
theorem pts_len (n : NetP) : n.pts.length = n.rows.length := ptsOf_len ..
theorem nums_len (n : NetP) (x : Int) (st : List Int) : (n.nums x st).length = n.rows.length := accL_len ..
theorem frm_at {fs : List FormP} {k : Nat} {f : FormP} (h : fs[k]? = some f) : frm fs k = f := by
  unfold frm
  rw [List.getD_eq_getElem?_getD, h]
  rfl
theorem FsAt.frm {C : Addr} {H : Hp} {vs : List V} {fs : List FormP} (h : FsAt C H vs fs) {k : Nat} (hk : k < fs.length) : ∃ p, vs[k]? = some (.ref p) ∧ FAt C H p (frm fs k) := by
  have e := List.getElem?_eq_getElem hk
  obtain ⟨p, a, b⟩ := h.at e
  exact ⟨p, a, by rw [frm_at e]; exact b⟩
theorem num_big {i : Nat} (h : i ≤ 60) {y : Nat} (l : y < 2 ^ SzN i) : y < 2 ^ 900000 := up l (by unfold SzN; omega)
theorem sumN_p (pts nums : List Int) (a b : Nat) : sumN pts nums a b 1 = nums.getD a 0 * 2 ^ ((if pts.getD b 0 > pts.getD a 0 then pts.getD b 0 else pts.getD a 0) - pts.getD a 0).toNat + nums.getD b 0 * 2 ^ ((if pts.getD b 0 > pts.getD a 0 then pts.getD b 0 else pts.getD a 0) - pts.getD b 0).toNat := by
  unfold sumN
  simp only [Int.one_mul]
theorem sumN_l (pts nums : List Int) (a b : Nat) : sumN pts nums a b (-1) = nums.getD a 0 * 2 ^ ((if pts.getD b 0 > pts.getD a 0 then pts.getD b 0 else pts.getD a 0) - pts.getD a 0).toNat - nums.getD b 0 * 2 ^ ((if pts.getD b 0 > pts.getD a 0 then pts.getD b 0 else pts.getD a 0) - pts.getD b 0).toNat := by
  unfold sumN
  simp only [Int.neg_mul, Int.one_mul, Int.sub_eq_add_neg]
theorem FsAt.butL {C a : Addr} {ys : List V} {H H' : Hp} {vs : List V} {fs : List FormP} (h : FsAt C H vs fs) (s : SameBut a H H') (ha : H a = some (.lst ys)) : FsAt C H' vs fs := by
  induction h with
  | nil => exact .nil
  | cons e _ ih =>
    obtain ⟨d, ho⟩ := e.ob
    exact .cons ⟨⟨d, s _ _ (ne_of ho ha (fun z => nomatch z)) ho⟩, e.wo, e.p0, e.p1⟩ ih
theorem kd_ne (a b : Kd7) (h : a ≠ b) : a.s ≠ b.s := by
  revert h
  cases a <;> cases b <;> first | (intro h; exact absurd rfl h) | (intro _; decide +kernel)
theorem kd_s {a b : Kd7} : decide (V.str a.s = V.str b.s) = decide (a.s = b.s) := by
  by_cases h : a.s = b.s
  · rw [h, decide_eq_true rfl, decide_eq_true rfl]
  · rw [decide_eq_false h, decide_eq_false (fun z => h (V.str.inj z))]
section
variable {P : Program} {w : World} {K : PySem.W.Frag} {mg : Str → Option Value} {base : Heap}
theorem sc_Net_forms : FnScope ["self"] ["self"] (defScope s_Net_forms) := ⟨rfl, rfl, rfl, by decide +kernel, rfl, by decide +kernel, by decide +kernel⟩
theorem ok_Net_forms {f : Addr} {fd : FuncData} {k : Nat} {C CN : Addr} (TN : NTxt K mg CN) (F : Fun K "forms" "Net.forms" s_Net_forms f fd) (z : Zs mg) : FnOk P w K mg base CX0 (k + 1) f fd ["self"] (spFormsM C CN) := by
  refine F.ok sc_Net_forms (fun vs H Q E h => ?_) (fun cdv A outer s H vs Q E hr h => ?_)
  · obtain ⟨p, n, rfl, _⟩ := h
    rfl
  · obtain ⟨p, n, rfl, ⟨ok, dx, fl, rl, hl2, pl, fv, rv, hv, b⟩, q⟩ := h
    refine ⟨_, (pss_one (ps_ret (pe_callTy call_list_of (by rfl) z.list (by decide +kernel) (pa_cons (pe_fld (pv 0) rfl) pa_nil)))), ?_⟩
    refine ⟨_, rfl, p, CN, dx, _, _, rfl, b.ob, TN.cl, TN.n_form_list, nl_f, _, _, rfl, .inl (SqL.of b.fa), fun l hl => ?_⟩
    generalize hG : upd _ l _ = G
    obtain ⟨s, h_l⟩ := upd_gen hG hl
    exact q l _ _ hl s h_l (b.fs.same s)
theorem sc_Net_rows : FnScope ["self"] ["self"] (defScope s_Net_rows) := ⟨rfl, rfl, rfl, by decide +kernel, rfl, by decide +kernel, by decide +kernel⟩
theorem ok_Net_rows {f : Addr} {fd : FuncData} {k : Nat} {C CN : Addr} (TN : NTxt K mg CN) (F : Fun K "rows" "Net.rows" s_Net_rows f fd) (z : Zs mg) : FnOk P w K mg base CX0 (k + 1) f fd ["self"] (spRowsM C CN) := by
  refine F.ok sc_Net_rows (fun vs H Q E h => ?_) (fun cdv A outer s H vs Q E hr h => ?_)
  · obtain ⟨p, n, rfl, _⟩ := h
    rfl
  · obtain ⟨p, n, rfl, ⟨ok, dx, fl, rl, hl2, pl, fv, rv, hv, b⟩, q⟩ := h
    refine ⟨_, (pss_one (ps_ret (pe_callTy call_list_of (by rfl) z.list (by decide +kernel) (pa_cons (pe_fld (pv 0) rfl) pa_nil)))), ?_⟩
    refine ⟨_, rfl, p, CN, dx, _, _, rfl, b.ob, TN.cl, TN.n_row_list, nl_r, _, _, rfl, .inl (SqL.of b.ra), fun l hl => ?_⟩
    generalize hG : upd _ l _ = G
    obtain ⟨s, h_l⟩ := upd_gen hG hl
    exact q l _ _ hl s h_l (b.rs.same s)
theorem sc_Net_holds : FnScope ["self"] ["self"] (defScope s_Net_holds) := ⟨rfl, rfl, rfl, by decide +kernel, rfl, by decide +kernel, by decide +kernel⟩
theorem ok_Net_holds {f : Addr} {fd : FuncData} {k : Nat} {C CN : Addr} (TN : NTxt K mg CN) (F : Fun K "holds" "Net.holds" s_Net_holds f fd) (z : Zs mg) : FnOk P w K mg base CX0 (k + 1) f fd ["self"] (spHoldsM C CN) := by
  refine F.ok sc_Net_holds (fun vs H Q E h => ?_) (fun cdv A outer s H vs Q E hr h => ?_)
  · obtain ⟨p, n, rfl, _⟩ := h
    rfl
  · obtain ⟨p, n, rfl, ⟨ok, dx, fl, rl, hl2, pl, fv, rv, hv, b⟩, q⟩ := h
    refine ⟨_, (pss_one (ps_ret (pe_callTy call_list_of (by rfl) z.list (by decide +kernel) (pa_cons (pe_fld (pv 0) rfl) pa_nil)))), ?_⟩
    refine ⟨_, rfl, p, CN, dx, _, _, rfl, b.ob, TN.cl, TN.n_hold_list, nl_h, _, _, rfl, .inl (SqL.of b.ha), fun l hl => ?_⟩
    generalize hG : upd _ l _ = G
    obtain ⟨s, h_l⟩ := upd_gen hG hl
    exact q l _ _ hl s h_l (b.hs.same s)
theorem sc_Net_points : FnScope ["self"] ["self"] (defScope s_Net_points) := ⟨rfl, rfl, rfl, by decide +kernel, rfl, by decide +kernel, by decide +kernel⟩
theorem ok_Net_points {f : Addr} {fd : FuncData} {k : Nat} {C CN : Addr} (TN : NTxt K mg CN) (F : Fun K "points" "Net.points" s_Net_points f fd) (z : Zs mg) : FnOk P w K mg base CX0 (k + 1) f fd ["self"] (spPtsM C CN) := by
  refine F.ok sc_Net_points (fun vs H Q E h => ?_) (fun cdv A outer s H vs Q E hr h => ?_)
  · obtain ⟨p, n, rfl, _⟩ := h
    rfl
  · obtain ⟨p, n, rfl, ⟨ok, dx, fl, rl, hl2, pl, fv, rv, hv, b⟩, q⟩ := h
    refine ⟨_, (pss_one (ps_ret (pe_callTy call_list_of (by rfl) z.list (by decide +kernel) (pa_cons (pe_fld (pv 0) rfl) pa_nil)))), ?_⟩
    refine ⟨_, rfl, p, CN, dx, _, _, rfl, b.ob, TN.cl, TN.n_point_list, nl_p, _, _, rfl, .inl (SqL.of b.pa), fun l hl => ?_⟩
    generalize hG : upd _ l _ = G
    obtain ⟨s, h_l⟩ := upd_gen hG hl
    exact q l _ hl s h_l
theorem sc_Net_enters : FnScope ["self"] ["self"] (defScope s_Net_enters) := ⟨rfl, rfl, rfl, by decide +kernel, rfl, by decide +kernel, by decide +kernel⟩
theorem ok_Net_enters {f : Addr} {fd : FuncData} {k : Nat} {C CN : Addr} (TN : NTxt K mg CN) (F : Fun K "enters" "Net.enters" s_Net_enters f fd) : FnOk P w K mg base CX0 (k + 1) f fd ["self"] (spEnM C CN) := by
  refine F.ok sc_Net_enters (fun vs H Q E h => ?_) (fun cdv A outer s H vs Q E hr h => ?_)
  · obtain ⟨p, n, rfl, _⟩ := h
    rfl
  · obtain ⟨p, n, rfl, ⟨ok, dx, fl, rl, hl2, pl, fv, rv, hv, b⟩, q⟩ := h
    refine ⟨_, (pss_one (ps_ret (pe_fld (pv 0) rfl))), ?_⟩
    exact ⟨_, rfl, p, CN, dx, _, _, rfl, b.ob, TN.cl, TN.n_enters_at, nl_e, q⟩
end
end E1

namespace E1
open PySem PySem.Spec PyProof.Rows L2
section
variable {P : Program} {w : World} {K : PySem.W.Frag} {mg : Str → Option Value} {base : Heap}
theorem sc_enter_form : FnScope ["net"] ["net"] (defScope s_enter_form) := ⟨rfl, rfl, rfl, by decide +kernel, rfl, by decide +kernel, by decide +kernel⟩
theorem ok_enter_form {f : Addr} {fd : FuncData} {C CN : Addr} (TN : NTxt K mg CN) (F : Fun K "enter_form" "enter_form" s_enter_form f fd) (n_forms : CalM P w K mg base 1 CN "forms" ["self"] (spFormsM C CN)) (n_enters : CalM P w K mg base 1 CN "enters" ["self"] (spEnM C CN)) : FnOk P w K mg base CX0 2 f fd ["net"] (spEnterForm C CN) := by
  refine F.ok sc_enter_form (fun vs H Q E h => ?_) (fun cdv A outer s H vs Q E hr h => ?_)
  · obtain ⟨p, n, rfl, _⟩ := h
    rfl
  · obtain ⟨p, n, rfl, hn, q⟩ := h
    refine ⟨_, (pss_one (ps_ret (pe_ix ix_list (pe_calm0 (pv 0) TN.cl n_forms hr) (pe_calm0 (pv 0) TN.cl n_enters hr) (fun _ _ => rfl)))), ?_⟩
    obtain ⟨ok, dx, fl, rl, hl, pl, fv, rv, hv, b⟩ := id hn
    refine ⟨_, rfl, p, dx, _, rfl, b.ob, nl_no (by decide +kernel), p, n, rfl, hn, fun l fv2 H1 hl1 s1 h_l hf => ?_⟩
    obtain ⟨q1, e1, f1⟩ := hf.frm ok.en
    refine ⟨_, rfl, p, dx, _, rfl, s1 _ _ b.ob, nl_no (by decide +kernel), p, n, rfl, hn.same s1, ?_⟩
    exact ⟨l, _, _, .ref q1, rfl, rfl, SqL.of h_l, atI_nat e1, q q1 _ s1 f1⟩
end
end E1

namespace E1
open PySem PySem.Spec PyProof.Rows L2

theorem WellAt.ne {H : Hp} {a p : Addr} {c : Int} (h : WellAt H a c) (hp : H p = none) : p ≠ a := fun e => by
  obtain ⟨x, y, z, ha, _⟩ := h
  rw [← e, hp] at ha
  cases ha
theorem WellAt.lst {H : Hp} {a : Addr} {c : Int} (h : WellAt H a c) : ∃ xs, H a = some (.lst xs) := by
  obtain ⟨x, y, z, ha, _⟩ := h
  exact ⟨_, ha⟩
theorem WellAt.nt {H : Hp} {a p : Addr} {c : Int} {xs : List V} (h : WellAt H a c) (hp : H p = some (.tup xs)) : p ≠ a := fun e => by
  obtain ⟨x, y, z, ha, _⟩ := h
  rw [← e, hp] at ha
  cases ha
theorem sevenI {r : Int} (h0 : 0 ≤ r) (h1 : r < 7) : ∃ m : Mn, atI [V.str "down", V.str "up", V.str "in", V.str "out", V.str "half", V.str "even", V.str "far"] r = some (.str m.str) := by
  rcases (by omega : r = 0 ∨ r = 1 ∨ r = 2 ∨ r = 3 ∨ r = 4 ∨ r = 5 ∨ r = 6) with rfl | rfl | rfl | rfl | rfl | rfl | rfl
  · exact ⟨.down, rfl⟩
  · exact ⟨.up, rfl⟩
  · exact ⟨.inn, rfl⟩
  · exact ⟨.out, rfl⟩
  · exact ⟨.half, rfl⟩
  · exact ⟨.even, rfl⟩
  · exact ⟨.far, rfl⟩
theorem endI {r : Int} (h0 : 0 ≤ r) (h1 : r < 2) : ∃ st, atI [V.str "wrap", V.str "stop"] r = some (.str (endS st)) := by
  rcases (by omega : r = 0 ∨ r = 1) with rfl | rfl
  · exact ⟨false, rfl⟩
  · exact ⟨true, rfl⟩
theorem twoI {x y : V} {r : Int} (h0 : 0 ≤ r) (h1 : r < 2) : ∃ v, atI [x, y] r = some v ∧ (v = x ∨ v = y) := by
  rcases (by omega : r = 0 ∨ r = 1) with rfl | rfl
  · exact ⟨x, rfl, .inl rfl⟩
  · exact ⟨y, rfl, .inr rfl⟩
theorem threeI {x y z : V} {r : Int} (h0 : 0 ≤ r) (h1 : r < 3) : ∃ v, atI [x, y, z] r = some v ∧ (v = x ∨ v = y ∨ v = z) := by
  rcases (by omega : r = 0 ∨ r = 1 ∨ r = 2) with rfl | rfl | rfl
  · exact ⟨x, rfl, .inl rfl⟩
  · exact ⟨y, rfl, .inr (.inl rfl)⟩
  · exact ⟨z, rfl, .inr (.inr rfl)⟩
def spLForm : Sp := fun vs H Q _ => ∃ (a : Addr) (fr : Bool) (R c : Int), vs = [.ref a, .bl fr, .int R] ∧ 0 ≤ R ∧ R ≤ 60 ∧ WellAt H a c ∧ 0 ≤ c ∧ c ≤ 10000 ∧ ∀ (f : FormP) (p : Addr) (H' : Hp), f.Ok → (fr = false → f.w ≠ none) → -R - 2 ≤ f.pt → f.pt ≤ R + 2 → SameBut a H H' → WellAt H' a (c + 7) → p ≠ a → H p = none → H' p = some (.tup f.vs) → Q (.ref p) H'
def spLWord : Sp := fun vs H Q _ => ∃ (a p : Addr) (f : FormP) (c : Int), vs = [.ref a, .ref p] ∧ H p = some (.tup f.vs) ∧ f.Ok ∧ WellAt H a c ∧ 0 ≤ c ∧ c ≤ 10000 ∧ ∀ (s : Int) (H' : Hp), inR f.w s = true → s.natAbs < 2 ^ 70 → SameBut a H H' → WellAt H' a (c + 5) → Q (.int s) H'
/-- by how much a row moves the point -/
def Row.by_ : Row → Int → Prop
  | .times _ m _, R => (m : Int) ≤ R
  | .move m _, R => -R ≤ m ∧ m ≤ R
  | _, _ => True
def spLRow : Sp := fun vs H Q _ => ∃ (a : Addr) (fc i hc : Nat) (fr : Bool) (R c : Int), vs = [.ref a, .int fc, .int i, .bl fr, .int R, .int hc] ∧ 1 ≤ fc ∧ fc ≤ 12 ∧ 1 ≤ i ∧ i ≤ 100 ∧ 0 ≤ R ∧ R ≤ 60 ∧ hc ≤ 100 ∧ WellAt H a c ∧ 0 ≤ c ∧ c ≤ 10000 ∧
  ∀ (r : Row) (p : Addr) (H' : Hp), RowOk hc fc i r → r.by_ R → (fr = true → r.small) → SameBut a H H' → WellAt H' a (c + 10) → p ≠ a → H p = none → H' p = some (.tup r.vs) → Q (.ref p) H'
theorem same_free {a p : Addr} {H H' : Hp} {xs : List V} (s : SameBut a H H') (ha : H a = some (.lst xs)) (h : H' p = none) (n : p ≠ a) : H p = none := by
  cases e : H p with
  | none => rfl
  | some o =>
    rw [s _ _ n e] at h
    cases h
section
variable {P : Program} {w : World} {K : PySem.W.Frag} {mg : Str → Option Value} {base : Heap}
theorem sc__law_form : FnScope ["_law_well_here", "_law_free", "_law_reach", "_law_width", "_law_manner"] ["_law_well_here", "_law_free", "_law_reach"] (defScope s__law_form) := ⟨rfl, rfl, rfl, by decide +kernel, rfl, by decide +kernel, by decide +kernel⟩
theorem ok__law_form {f : Addr} {fd : FuncData} (F : Fun K "_law_form" "_law_form" s__law_form f fd) (c__law_draw : Cal P w K mg base 1 "_law_draw" ["_law_well_here", "_law_many"] spDraw) : FnOk P w K mg base CX0 2 f fd ["_law_well_here", "_law_free", "_law_reach"] spLForm := by
  refine F.ok sc__law_form (fun vs H Q E h => ?_) (fun cdv A outer s H vs Q E hr h => ?_)
  · obtain ⟨a, fr, R, c, rfl, _⟩ := h
    rfl
  · obtain ⟨a, fr, R, c, rfl, R0, R1, hw, c0, c1, q⟩ := h
    refine ⟨_, (pss_cons (ps_set (i := 3) sc__law_form.nd rfl (.inl rfl) (pe_ix ix_list (pe_lst (pa_cons (pe_op op_add pe_int (pe_cal c__law_draw hr (pa_cons (pv 0) (pa_cons pe_int pa_nil)))) (pa_cons (pe_op op_add pe_int (pe_cal c__law_draw hr (pa_cons (pv 0) (pa_cons pe_int pa_nil)))) (pa_cons pe_int pa_nil)))) (pe_cal c__law_draw hr (pa_cons (pv 0) (pa_cons pe_int pa_nil))) (fun _ _ => rfl)))
      (C8.pss_cut (ps_if (PW.pt (pw_and (pt_val (pv 1)) (pw_and1 (pt_cmpR op_eq (pe_cal c__law_draw hr (pa_cons (pv 0) (pa_cons pe_int pa_nil))) pe_int (nomark _))))) (pss_one (ps_set (i := 3) sc__law_form.nd rfl (.inl rfl) pe_non)) pss_nil)
      (pss_cons (ps_set (i := 4) sc__law_form.nd rfl (.inl rfl) (pe_ix ix_list (pe_lst (pa_cons pe_str (pa_cons pe_str (pa_cons pe_str (pa_cons pe_str (pa_cons pe_str (pa_cons pe_str (pa_cons pe_str pa_nil)))))))) (pe_cal c__law_draw hr (pa_cons (pv 0) (pa_cons pe_int pa_nil))) (fun _ _ => rfl)))
      (pss_one (ps_ret (pe_tup (pa_cons (pv 3) (pa_cons (pe_op op_sub (pe_op op_sub (pe_cal c__law_draw hr (pa_cons (pv 0) (pa_cons (pe_op op_add (pe_op op_mul pe_int (pv 2)) pe_int) pa_nil))) (pv 2)) pe_int) (pa_cons (pv 4) (pa_cons (pe_ix ix_list (pe_lst (pa_cons pe_str (pa_cons pe_str pa_nil))) (pe_cal c__law_draw hr (pa_cons (pv 0) (pa_cons pe_int pa_nil))) (fun _ _ => rfl)) pa_nil)))))))))), ?_⟩
    refine ⟨_, rfl, a, c, 4, rfl, hw, by omega, by decide, by decide +kernel, fun r1 H1 r10 r11 d1 e1 w1 => ⟨_, _, rfl, rfl, _, rfl, a, c + 1, 63, rfl, w1, by omega, by decide, by decide +kernel, fun r2 H2 r20 r21 d2 e2 w2 => ⟨_, _, rfl, rfl, (by show 3 ≤ sizeLine; decide), fun l3 hl3 => ?_⟩⟩⟩
    have n3 := w2.ne hl3
    have q3 := same_new (o := .lst [V.int (2 + r1), V.int (2 + r2), V.int 64]) hl3
    refine ⟨_, rfl, a, c + 1 + 1, 3, rfl, (w2.same q3), by omega, by decide, by decide +kernel, fun r3 H3 r30 r31 d3 e3 w3 => ?_⟩
    obtain ⟨v3, i3, o3⟩ := threeI (x := V.int (2 + r1)) (y := V.int (2 + r2)) (z := V.int 64) r30 r31
    obtain ⟨y, rfl, y0, y1⟩ : ∃ y : Int, v3 = .int y ∧ 2 ≤ y ∧ y ≤ 64 := by
      rcases o3 with rfl | rfl | rfl
      · exact ⟨_, rfl, by omega, by omega⟩
      · exact ⟨_, rfl, by omega, by omega⟩
      · exact ⟨_, rfl, by omega, by omega⟩
    refine ⟨l3, _, r3, _, rfl, rfl, SqL.of (d3 _ _ n3 upd_same), i3, ?_⟩
    have D3 : SameBut a H H3 := d1.trans (d2.trans ((SameBut.of q3).trans d3))
    clear d1 d2 d3 e1 e2 e3 q3 i3 n3 w1 w2 o3
    refine ⟨fun σ G => ∃ w : Option Int, σ = [some (.ref a), some (.bl fr), some (.int R), some (wV w), none] ∧ WOk w ∧ (fr = false → w ≠ none) ∧ SameBut a H G ∧ WellAt G a (c + 4), ?_, fun σ H4 hM => ?_⟩
    · have ok : WOk (some y) := fun x z => by cases z; exact ⟨y0, y1⟩
      refine ⟨_, rfl, _, rfl, ?_⟩
      cases fr with
      | false => exact iteF ⟨some y, rfl, ok, (fun _ z => nomatch z), D3, w3.mono (by omega)⟩
      | true =>
        refine iteT ⟨_, rfl, a, c + 1 + 1 + 1, 2, rfl, w3, by omega, by decide, by decide +kernel, fun r4 H4 r40 r41 d4 e4 w4 => ⟨rfl, _, rfl, ite2 (fun _ => ?_) (fun _ => ?_)⟩⟩
        · exact ⟨none, rfl, (fun _ z => by cases z), (fun z => nomatch z), D3.trans d4, w4.mono (by omega)⟩
        · exact ⟨some y, rfl, ok, (fun _ z => nomatch z), D3.trans d4, w4.mono (by omega)⟩
    obtain ⟨w, rfl, hwo, hwn, D4, w4⟩ := hM
    clear D3 w3
    refine ⟨(by show 7 ≤ sizeLine; decide), fun l5 hl5 => ?_⟩
    have q5 := same_new (o := .lst [V.str "down", V.str "up", V.str "in", V.str "out", V.str "half", V.str "even", V.str "far"]) hl5
    have n5 := w4.ne hl5
    refine ⟨_, rfl, a, c + 4, 7, rfl, (w4.same q5), by omega, by decide, by decide +kernel, fun r6 H6 r60 r61 d6 e6 w6 => ?_⟩
    obtain ⟨m, hm⟩ := sevenI r60 r61
    refine ⟨l5, _, r6, _, rfl, rfl, SqL.of (d6 _ _ n5 upd_same), hm, ?_⟩
    have D6 : SameBut a H H6 := D4.trans ((SameBut.of q5).trans d6)
    refine ⟨_, rfl, _, rfl, _, rfl, _, _, rfl, rfl, .inl ⟨by decide, by decide⟩, _, _, rfl, rfl, a, c + 4 + 1, 2 * R + 5, rfl, w6, by omega, by omega, Nat.lt_of_le_of_lt (show _ ≤ 1000 by omega) (by decide +kernel), fun r7 H7 r70 r71 d7 e7 w7 => ⟨_, rfl, _, _, rfl, rfl, _, _, rfl, rfl, _, rfl, (by show 2 ≤ sizeLine; decide), fun l8 hl8 => ?_⟩⟩
    have q8 := same_new (o := .lst [V.str "wrap", V.str "stop"]) hl8
    have n8 := w7.ne hl8
    refine ⟨_, rfl, a, c + 4 + 1 + 1, 2, rfl, (w7.same q8), by omega, by decide, by decide +kernel, fun r9 H9 r90 r91 d9 e9 w9 => ?_⟩
    obtain ⟨st, hst⟩ := endI r90 r91
    refine ⟨l8, _, r9, _, rfl, rfl, SqL.of (d9 _ _ n8 upd_same), hst, (by show 4 ≤ sizeLine; decide), fun p hp => ?_⟩
    have D9 : SameBut a H H9 := D6.trans (d7.trans ((SameBut.of q8).trans d9))
    have np := w9.ne hp
    obtain ⟨xs, hxs⟩ := hw.lst
    refine q ⟨w, r7 - R - 2, m, st⟩ p _ ⟨hwo, by show -64 ≤ r7 - R - 2; omega, by show r7 - R - 2 ≤ 64; omega⟩ hwn (by show -R - 2 ≤ r7 - R - 2; omega) (by show r7 - R - 2 ≤ R + 2; omega) (D9.trans (.of (same_new hp))) ((w9.same (same_new hp)).mono (by omega)) np (same_free D9 hxs hp np) upd_same
theorem sc__law_word : FnScope ["_law_well_here", "_law_form_here", "_law_room"] ["_law_well_here", "_law_form_here"] (defScope s__law_word) := ⟨rfl, rfl, rfl, by decide +kernel, rfl, by decide +kernel, by decide +kernel⟩
theorem ok__law_word {f : Addr} {fd : FuncData} (F : Fun K "_law_word" "_law_word" s__law_word f fd) (c__law_draw : Cal P w K mg base 1 "_law_draw" ["_law_well_here", "_law_many"] spDraw) : FnOk P w K mg base CX0 2 f fd ["_law_well_here", "_law_form_here"] spLWord := by
  refine F.ok sc__law_word (fun vs H Q E h => ?_) (fun cdv A outer s H vs Q E hr h => ?_)
  · obtain ⟨a, p, f, c, rfl, _⟩ := h
    rfl
  · obtain ⟨a, p, f, c, rfl, hp, fo, hw, c0, c1, q⟩ := h
    refine ⟨_, (pss_cons (ps_if (pt_cmpR op_isN (pe_ix ix_tup (pv 1) pe_int (fun _ _ => rfl)) pe_non (nomark _)) (pss_one (ps_ret (pe_ix ix_list (pe_lst (pa_cons (pe_op op_sub (pe_cal c__law_draw hr (pa_cons (pv 0) (pa_cons pe_int pa_nil))) pe_int) (pa_cons (pe_op op_sub (pe_cal c__law_draw hr (pa_cons (pv 0) (pa_cons (pe_op op_pow pe_int pe_int) pa_nil))) (pe_op op_pow pe_int pe_int)) pa_nil))) (pe_cal c__law_draw hr (pa_cons (pv 0) (pa_cons pe_int pa_nil))) (fun _ _ => rfl)))) pss_nil)
      (pss_cons (ps_set (i := 2) sc__law_word.nd rfl (.inl rfl) (pe_op op_shlW pe_int (pe_op op_sub (pe_ix ix_tup (pv 1) pe_int (fun _ _ => rfl)) pe_int)))
      (pss_cons (ps_if (pt_cmpR op_eq (pe_cal c__law_draw hr (pa_cons (pv 0) (pa_cons pe_int pa_nil))) pe_int (nomark _)) (pss_one (ps_ret (pe_ix ix_list (pe_lst (pa_cons (pe_op op_sub pe_int (pv 2)) (pa_cons (pe_op op_sub (pv 2) pe_int) pa_nil))) (pe_cal c__law_draw hr (pa_cons (pv 0) (pa_cons pe_int pa_nil))) (fun _ _ => rfl)))) pss_nil)
      (pss_one (ps_ret (pe_op op_sub (pe_op op_mod (pe_op op_add (pe_op op_mulW (pe_cal c__law_draw hr (pa_cons (pv 0) (pa_cons (pe_op op_mul pe_int (pv 2)) pa_nil))) (pe_op op_add pe_int (pe_op op_mul pe_int (pe_cal c__law_draw hr (pa_cons (pv 0) (pa_cons (pe_op op_pow pe_int pe_int) pa_nil)))))) (pe_cal c__law_draw hr (pa_cons (pv 0) (pa_cons pe_int pa_nil)))) (pe_op op_mul pe_int (pv 2))) (pv 2))))))), ?_⟩
    obtain ⟨w, pt, m, st⟩ := f
    have wo := fo.wo
    have np := hw.nt hp
    refine ⟨_, rfl, p, _, 0, wV w, rfl, rfl, SqT.of hp, a0, rfl, _, rfl, ?_⟩
    cases w with
    | none =>
      refine iteT ⟨_, rfl, a, c, 19, rfl, hw, by omega, by decide, by decide +kernel, fun r1 H1 r10 r11 d1 e1 w1 => ⟨_, _, rfl, rfl, _, rfl, _, _, rfl, rfl, ⟨by decide, by decide, by decide⟩, a, c + 1, 10 ^ (12 : Int).toNat, rfl, w1, by omega, by decide, by decide +kernel, fun r2 H2 r20 r21 d2 e2 w2 => ⟨_, _, rfl, rfl, ⟨by decide, by decide, by decide⟩, _, _, rfl, rfl, (by show 2 ≤ sizeLine; decide), fun l hl => ?_⟩⟩⟩
      have n3 := w2.ne hl
      have q3 := same_new (o := .lst [V.int (r1 - 9), V.int (r2 - 10 ^ (11 : Int).toNat)]) hl
      refine ⟨_, rfl, a, c + 1 + 1, 2, rfl, (w2.same q3), by omega, by decide, by decide +kernel, fun r3 H3 r30 r31 d3 e3 w3 => ?_⟩
      obtain ⟨v, i3, o3⟩ := twoI (x := V.int (r1 - 9)) (y := V.int (r2 - 10 ^ (11 : Int).toNat)) r30 r31
      have b1 : ((10 : Int) ^ (12 : Int).toNat) = 1000000000000 := by decide
      have b2 : ((10 : Int) ^ (11 : Int).toNat) = 100000000000 := by decide
      obtain ⟨s, rfl, sb⟩ : ∃ s : Int, v = .int s ∧ s.natAbs < 2 ^ 70 := by
        rcases o3 with rfl | rfl
        · exact ⟨_, rfl, Nat.lt_of_le_of_lt (show _ ≤ 100 by omega) (by decide)⟩
        · refine ⟨_, rfl, Nat.lt_of_le_of_lt (show _ ≤ 2000000000000 by omega) (by decide)⟩
      exact ⟨l, _, r3, _, rfl, rfl, SqL.of (d3 _ _ n3 upd_same), i3, q s _ rfl sb (d1.trans (d2.trans ((SameBut.of q3).trans d3))) (w3.mono (by omega))⟩
    | some y =>
      obtain ⟨y0, y1⟩ := wo y rfl
      have rm : (1 : Int) * 2 ^ (y - 1).toNat = two (y - 1) := Int.one_mul _
      have r0 := two_pos (y - 1)
      have rb : (two (y - 1)).natAbs < 2 ^ 64 := by
        unfold two
        exact two_pow_lt (by omega)
      have fin : ∀ s : Int, lst y ≤ s → s ≤ grt y → inR (some y) s = true ∧ s.natAbs < 2 ^ 70 := fun s h0 h1 => by
        refine ⟨by show (decide (lst y ≤ s) && decide (s ≤ grt y)) = true; rw [decide_eq_true h0, decide_eq_true h1]; rfl, ?_⟩
        unfold lst grt at *
        have e : (2 : Nat) ^ 70 = 2 ^ 64 * 64 := by decide
        rw [e]
        generalize (2 : Nat) ^ 64 = N at *
        omega
      refine iteF ⟨_, rfl, p, _, 0, .int y, rfl, rfl, SqT.of hp, a0, _, _, rfl, rfl, _, _, rfl, rfl, ?_, ?_⟩
      · have e : y - 1 = (((y - 1).toNat : Nat) : Int) := by omega
        rw [e]
        exact shl_ok (n := 1) (by decide) (by omega)
      dsimp only
      rw [rm]
      have eg : grt y = two (y - 1) - 1 := rfl
      have el : lst y = -(two (y - 1)) := rfl
      refine ⟨_, rfl, a, c, 4, rfl, hw, by omega, by decide, by decide +kernel, fun r1 H1 r10 r11 d1 e1 w1 => ⟨rfl, _, rfl, ite2 (fun _ => ?_) (fun _ => ?_)⟩⟩
      · refine ⟨_, rfl, _, _, rfl, rfl, _, rfl, _, _, rfl, rfl, (by show 2 ≤ sizeLine; decide), fun l hl => ?_⟩
        have n3 := w1.ne hl
        have q3 := same_new (o := .lst [V.int (0 - two (y - 1)), V.int (two (y - 1) - 1)]) hl
        refine ⟨_, rfl, a, c + 1, 2, rfl, (w1.same q3), by omega, by decide, by decide +kernel, fun r3 H3 r30 r31 d3 e3 w3 => ?_⟩
        obtain ⟨v, i3, o3⟩ := twoI (x := V.int (0 - two (y - 1))) (y := V.int (two (y - 1) - 1)) r30 r31
        obtain ⟨s, rfl, s0, s1⟩ : ∃ s : Int, v = .int s ∧ lst y ≤ s ∧ s ≤ grt y := by
          rcases o3 with rfl | rfl
          · exact ⟨_, rfl, by omega, by omega⟩
          · exact ⟨_, rfl, by omega, by omega⟩
        obtain ⟨g1, g2⟩ := fin s s0 s1
        exact ⟨l, _, r3, _, rfl, rfl, SqL.of (d3 _ _ n3 upd_same), i3, q s _ g1 g2 (d1.trans ((SameBut.of q3).trans d3)) (w3.mono (by omega))⟩
      · have bb : (2 * two (y - 1)).natAbs < 2 ^ 66 := by
          have e : (2 : Nat) ^ 66 = 2 ^ 64 * 4 := by decide
          rw [e]
          generalize (2 : Nat) ^ 64 = N at *
          omega
        refine ⟨_, rfl, _, rfl, _, _, rfl, rfl, .inl ⟨by decide, by decide⟩, a, c + 1, 2 * two (y - 1), rfl, w1, by omega, by omega, up bb (by decide), fun r2 H2 r20 r21 d2 e2 w2 => ?_⟩
        refine ⟨_, rfl, _, _, rfl, rfl, ⟨by decide, by decide, by decide⟩, a, c + 1 + 1, 10 ^ (5 : Int).toNat, rfl, w2, by omega, by decide, by decide +kernel, fun r3 H3 r30 r31 d3 e3 w3 => ?_⟩
        have b5 : ((10 : Int) ^ (5 : Int).toNat) = 100000 := by decide
        have rb2 : r2.natAbs < 2 ^ 66 := by omega
        refine ⟨_, _, rfl, rfl, .inl ⟨by decide, by decide⟩, _, _, rfl, rfl, _, _, rfl, rfl, wide_mul rb2 (show (1 + 2 * r3).natAbs < 2 ^ 30 from Nat.lt_of_le_of_lt (show _ ≤ 1000000 by omega) (by decide)) (by decide) (by decide) (by decide), ?_⟩
        refine ⟨_, rfl, a, c + 1 + 1 + 1, 7, rfl, w3, by omega, by decide, by decide +kernel, fun r4 H4 r40 r41 d4 e4 w4 => ⟨_, _, rfl, rfl, _, rfl, _, _, rfl, rfl, .inl ⟨by decide, by decide⟩, _, _, rfl, rfl, (by show 0 < 2 * two (y - 1); omega), _, rfl, _, _, rfl, rfl, ?_⟩⟩
        have m0 := Int.emod_nonneg (r2 * (1 + 2 * r3) + r4) (show 2 * two (y - 1) ≠ 0 by omega)
        have m1 := Int.emod_lt_of_pos (r2 * (1 + 2 * r3) + r4) (show 0 < 2 * two (y - 1) by omega)
        obtain ⟨g1, g2⟩ := fin ((r2 * (1 + 2 * r3) + r4) % (2 * two (y - 1)) - two (y - 1)) (by omega) (by omega)
        exact q _ _ g1 g2 (d1.trans (d2.trans (d3.trans d4))) (w4.mono (by omega))
theorem sc__law_row : FnScope ["_law_well_here", "_law_count", "_law_at", "_law_free", "_law_reach", "_law_held", "_law_sort", "_law_here", "_law_there", "_law_factor"] ["_law_well_here", "_law_count", "_law_at", "_law_free", "_law_reach", "_law_held"] (defScope s__law_row) := ⟨rfl, rfl, rfl, by decide +kernel, rfl, by decide +kernel, by decide +kernel⟩
theorem ok__law_row {f : Addr} {fd : FuncData} (F : Fun K "_law_row" "_law_row" s__law_row f fd) (c__law_draw : Cal P w K mg base 1 "_law_draw" ["_law_well_here", "_law_many"] spDraw) : FnOk P w K mg base CX0 2 f fd ["_law_well_here", "_law_count", "_law_at", "_law_free", "_law_reach", "_law_held"] spLRow := by
  refine F.ok sc__law_row (fun vs H Q E h => ?_) (fun cdv A outer s H vs Q E hr h => ?_)
  · obtain ⟨a, fc, i, hc, fr, R, c, rfl, _⟩ := h
    rfl
  · obtain ⟨a, fc, i, hc, fr, R, c, rfl, fc0, fc1, i0, i1, R0, R1, hc1, hw, c0, c1, q⟩ := h
    refine ⟨_, (pss_cons (ps_set (i := 6) sc__law_row.nd rfl (.inl rfl) (pe_cal c__law_draw hr (pa_cons (pv 0) (pa_cons pe_int pa_nil))))
      (pss_cons (ps_set (i := 7) sc__law_row.nd rfl (.inl rfl) (pe_ix ix_list (pe_lst (pa_cons (pe_op op_sub (pv 2) pe_int) (pa_cons (pe_cal c__law_draw hr (pa_cons (pv 0) (pa_cons (pv 2) pa_nil))) pa_nil))) (pe_cal c__law_draw hr (pa_cons (pv 0) (pa_cons pe_int pa_nil))) (fun _ _ => rfl)))
      (pss_cons (ps_set (i := 8) sc__law_row.nd rfl (.inl rfl) (pe_cal c__law_draw hr (pa_cons (pv 0) (pa_cons (pv 2) pa_nil))))
      (pss_cons (ps_if (pt_cmpR op_eq (pv 6) pe_int (nomark _)) (pss_one (ps_ret (pe_tup (pa_cons pe_str (pa_cons (pv 7) (pa_cons (pv 8) pa_nil)))))) pss_nil)
      (pss_cons (ps_if (pt_cmpR op_eq (pv 6) pe_int (nomark _)) (pss_one (ps_ret (pe_tup (pa_cons pe_str (pa_cons (pv 7) (pa_cons (pv 8) pa_nil)))))) pss_nil)
      (pss_cons (ps_if (pt_cmpR op_eq (pv 6) pe_int (nomark _)) (pss_one (ps_ret (pe_tup (pa_cons pe_str (pa_cons (pe_op op_sub (pe_cal c__law_draw hr (pa_cons (pv 0) (pa_cons (pe_op op_add (pe_op op_mul pe_int (pv 4)) pe_int) pa_nil))) (pv 4)) (pa_cons (pv 7) pa_nil)))))) pss_nil)
      (pss_cons (ps_if (pt_cmpR op_eq (pv 6) pe_int (nomark _)) (pss_one (ps_ret (pe_tup (pa_cons pe_str (pa_cons (pe_cal c__law_draw hr (pa_cons (pv 0) (pa_cons (pv 1) pa_nil))) (pa_cons (pv 7) pa_nil)))))) pss_nil)
      (C8.pss_cut (ps_if (PW.pt (pw_and (pt_cmpR op_eq (pv 6) pe_int (nomark _)) (pw_and1 (pt_cmpR op_gt (pv 5) pe_int (nomark _))))) (pss_one (ps_ret (pe_tup (pa_cons pe_str (pa_cons (pe_cal c__law_draw hr (pa_cons (pv 0) (pa_cons (pv 5) pa_nil))) pa_nil))))) pss_nil)
      (pss_cons (ps_if (pt_cmpR op_eq (pv 6) pe_int (nomark _)) (pss_one (ps_ret (pe_tup (pa_cons pe_str pa_nil)))) pss_nil)
      (pss_cons (ps_set (i := 9) sc__law_row.nd rfl (.inl rfl) (pe_op op_sub (pe_cal c__law_draw hr (pa_cons (pv 0) (pa_cons pe_int pa_nil))) pe_int))
      (C8.pss_cut (ps_if (PW.pt (pw_and (pt_not (pt_val (pv 3))) (pw_and1 (pt_cmpR op_eq (pe_cal c__law_draw hr (pa_cons (pv 0) (pa_cons pe_int pa_nil))) pe_int (nomark _))))) (pss_one (ps_set (i := 9) sc__law_row.nd rfl (.inl rfl) (pe_op op_mulW (pe_op op_mod (pe_op op_add (pe_op op_mulW (pe_cal c__law_draw hr (pa_cons (pv 0) (pa_cons (pe_op op_pow pe_int pe_int) pa_nil))) (pe_op op_add pe_int (pe_op op_mul pe_int (pe_cal c__law_draw hr (pa_cons (pv 0) (pa_cons (pe_op op_pow pe_int pe_int) pa_nil)))))) pe_int) (pe_op op_pow pe_int pe_int)) (pe_op op_sub pe_int (pe_op op_mul pe_int (pe_op op_mod (pv 9) pe_int)))))) pss_nil)
      (pss_one (ps_ret (pe_tup (pa_cons pe_str (pa_cons (pv 9) (pa_cons (pe_cal c__law_draw hr (pa_cons (pv 0) (pa_cons (pe_op op_add (pv 4) pe_int) pa_nil))) (pa_cons (pv 7) pa_nil)))))))))))))))))), ?_⟩
    obtain ⟨wxs, hwx⟩ := hw.lst
    have fin : ∀ (r : Row) (G : Hp), SameBut a H G → WellAt G a (c + 9) → RowOk hc fc i r → r.by_ R → (fr = true → r.small) → ∀ p, G p = none → Q (.ref p) (upd G p (.tup r.vs)) := fun r G sb wl ok by_ sm p hp =>
      q r p _ ok by_ sm (sb.trans (.of (same_new hp))) ((wl.same (same_new hp)).mono (by omega)) (wl.ne hp) (same_free sb hwx hp (wl.ne hp)) upd_same
    refine ⟨_, rfl, a, c, 8, rfl, hw, by omega, by decide, by decide +kernel, fun r1 H1 r10 r11 d1 e1 w1 => ⟨_, rfl, _, _, rfl, rfl, _, rfl, _, rfl, a, c + 1, (i : Int), rfl, w1, by omega, by omega, Nat.lt_of_le_of_lt (show _ ≤ 1000 by omega) (by decide +kernel), fun r2 H2 r20 r21 d2 e2 w2 => ⟨(by show 2 ≤ sizeLine; decide), fun l3 hl3 => ?_⟩⟩⟩
    have n3 := w2.ne hl3
    have q3 := same_new (o := .lst [V.int ((i : Int) - 1), V.int r2]) hl3
    refine ⟨_, rfl, a, c + 1 + 1, 2, rfl, (w2.same q3), by omega, by decide, by decide +kernel, fun r3 H3 r30 r31 d3 e3 w3 => ?_⟩
    obtain ⟨v3, i3, o3⟩ := twoI (x := V.int ((i : Int) - 1)) (y := V.int r2) r30 r31
    obtain ⟨hn, rfl, hn1⟩ : ∃ n : Nat, v3 = .int (n : Int) ∧ n < i := by
      rcases o3 with rfl | rfl
      · exact ⟨i - 1, by congr 1; omega, by omega⟩
      · exact ⟨r2.toNat, by congr 1; omega, by omega⟩
    refine ⟨l3, _, r3, _, rfl, rfl, SqL.of (d3 _ _ n3 upd_same), i3, ?_⟩
    have D3 : SameBut a H H3 := d1.trans (d2.trans ((SameBut.of q3).trans d3))
    clear d1 d2 d3 e1 e2 e3 q3 i3 n3 w1 w2 o3
    refine ⟨_, rfl, _, rfl, a, c + 1 + 1 + 1, (i : Int), rfl, w3, by omega, by omega, Nat.lt_of_le_of_lt (show _ ≤ 1000 by omega) (by decide +kernel), fun r4 H4 r40 r41 d4 e4 w4 => ?_⟩
    obtain ⟨tn, rfl⟩ : ∃ n : Nat, r4 = (n : Int) := ⟨r4.toNat, by omega⟩
    have tn1 : tn < i := by omega
    have D4 := D3.trans d4
    have W4 : WellAt H4 a (c + 4) := w4.mono (by omega)
    clear D3 d4 w3 w4 e4 r40 r41
    refine ⟨_, rfl, rfl, _, rfl, ite2 (fun _ => ?_) (fun k0 => ?_)⟩
    · exact ⟨_, rfl, _, rfl, (by show 3 ≤ sizeLine; decide), fun p hp => fin (.plus hn tn) _ D4 (W4.mono (by omega)) ⟨hn1, tn1⟩ trivial (fun _ => trivial) p hp⟩
    refine ⟨_, rfl, rfl, _, rfl, ite2 (fun _ => ?_) (fun k1 => ?_)⟩
    · exact ⟨_, rfl, _, rfl, (by show 3 ≤ sizeLine; decide), fun p hp => fin (.less hn tn) _ D4 (W4.mono (by omega)) ⟨hn1, tn1⟩ trivial (fun _ => trivial) p hp⟩
    refine ⟨_, rfl, rfl, _, rfl, ite2 (fun _ => ?_) (fun k2 => ?_)⟩
    · refine ⟨_, rfl, _, rfl, _, _, rfl, rfl, .inl ⟨by decide, by decide⟩, _, _, rfl, rfl, a, c + 4, 2 * R + 1, rfl, W4, by omega, by omega, Nat.lt_of_le_of_lt (show _ ≤ 1000 by omega) (by decide +kernel), fun r5 H5 r50 r51 d5 e5 w5 => ⟨_, rfl, _, _, rfl, rfl, _, rfl, (by show 3 ≤ sizeLine; decide), fun p hp => ?_⟩⟩
      exact fin (.move (r5 - R) hn) _ (D4.trans d5) (w5.mono (by omega)) ⟨by omega, hn1⟩ ⟨by omega, by omega⟩ (fun _ => trivial) p hp
    refine ⟨_, rfl, rfl, _, rfl, ite2 (fun _ => ?_) (fun k3 => ?_)⟩
    · refine ⟨_, rfl, _, rfl, a, c + 4, (fc : Int), rfl, W4, by omega, by omega, Nat.lt_of_le_of_lt (show _ ≤ 1000 by omega) (by decide +kernel), fun r5 H5 r50 r51 d5 e5 w5 => ⟨_, rfl, (by show 3 ≤ sizeLine; decide), fun p hp => ?_⟩⟩
      obtain ⟨fn, rfl⟩ : ∃ n : Nat, r5 = (n : Int) := ⟨r5.toNat, by omega⟩
      exact fin (.keep fn hn) _ (D4.trans d5) (w5.mono (by omega)) ⟨by omega, hn1⟩ trivial (fun _ => trivial) p hp
    refine ⟨fun σ G => σ = [some (.ref a), some (.int fc), some (.int i), some (.bl fr), some (.int R), some (.int hc), some (.int r1), some (.int hn), some (.int tn), none] ∧ G = H4, ?_, fun σ G hM => ?_⟩
    · refine ⟨_, rfl, rfl, _, rfl, ite2 (fun _ => ?_) (fun k4 => ⟨rfl, rfl⟩)⟩
      refine ⟨_, rfl, _, _, rfl, rfl, _, rfl, ite2 (fun k5 => ?_) (fun _ => ⟨rfl, rfl⟩)⟩
      have hc0 : 0 < (hc : Int) := toB k5
      refine ⟨_, rfl, _, rfl, a, c + 4, (hc : Int), rfl, W4, by omega, by omega, Nat.lt_of_le_of_lt (show _ ≤ 1000 by omega) (by decide +kernel), fun r5 H5 r50 r51 d5 e5 w5 => ⟨(by show 2 ≤ sizeLine; decide), fun p hp => ?_⟩⟩
      obtain ⟨kn, rfl⟩ : ∃ n : Nat, r5 = (n : Int) := ⟨r5.toNat, by omega⟩
      exact fin (.old kn) _ (D4.trans d5) (w5.mono (by omega)) (show kn < hc by omega) trivial (fun _ => trivial) p hp
    obtain ⟨rfl, rfl⟩ := hM
    refine ⟨_, rfl, rfl, _, rfl, ite2 (fun _ => ?_) (fun k5 => ?_)⟩
    · exact ⟨(by show 1 ≤ sizeLine; decide), fun p hp => fin .inn _ D4 (W4.mono (by omega)) trivial trivial (fun _ => trivial) p hp⟩
    refine ⟨_, rfl, a, c + 4, 19, rfl, W4, by omega, by decide, by decide +kernel, fun r5 H5 r50 r51 d5 e5 w5 => ⟨_, _, rfl, rfl, ?_⟩⟩
    refine ⟨fun σ G => ∃ F : Int, F.natAbs < 9223372036854775808 ∧ (fr = true → F.natAbs ≤ 9) ∧ σ = [some (.ref a), some (.int fc), some (.int i), some (.bl fr), some (.int R), some (.int hc), some (.int r1), some (.int hn), some (.int tn), some (.int F)] ∧ SameBut a H G ∧ WellAt G a (c + 8), ?_, fun σ G hM => ?_⟩
    · refine ⟨_, rfl, _, rfl, ?_⟩
      cases fr with
      | true => exact iteF ⟨r5 - 9, by omega, (fun _ => by omega), rfl, D4.trans d5, w5.mono (by omega)⟩
      | false =>
        refine iteT ⟨_, rfl, a, c + 4 + 1, 3, rfl, w5, by omega, by decide, by decide +kernel, fun r6 H6 r60 r61 d6 e6 w6 => ⟨rfl, _, rfl, ite2 (fun _ => ?_) (fun _ => ⟨r5 - 9, by omega, (fun z => nomatch z), rfl, (D4.trans d5).trans d6, w6.mono (by omega)⟩)⟩⟩
        have b63 : ((2 : Int) ^ (63 : Int).toNat) = 9223372036854775808 := by decide
        have b5 : ((10 : Int) ^ (5 : Int).toNat) = 100000 := by decide
        refine ⟨_, rfl, _, _, rfl, rfl, ⟨by decide, by decide, by decide⟩, a, c + 4 + 1 + 1, 2 ^ (63 : Int).toNat, rfl, w6, by omega, by decide, by decide +kernel, fun r7 H7 r70 r71 d7 e7 w7 => ?_⟩
        refine ⟨_, rfl, _, _, rfl, rfl, ⟨by decide, by decide, by decide⟩, a, c + 4 + 1 + 1 + 1, 10 ^ (5 : Int).toNat, rfl, w7, by omega, by decide, by decide +kernel, fun r8 H8 r80 r81 d8 e8 w8 => ?_⟩
        rw [b63] at r71
        rw [b5] at r81
        refine ⟨_, _, rfl, rfl, .inl ⟨by decide, by decide⟩, _, _, rfl, rfl, _, _, rfl, rfl, wide_mul (show r7.natAbs < 2 ^ 64 from Nat.lt_of_le_of_lt (show _ ≤ 9223372036854775808 by omega) (by decide)) (show (1 + 2 * r8).natAbs < 2 ^ 30 from Nat.lt_of_le_of_lt (show _ ≤ 1000000 by omega) (by decide)) (by decide) (by decide) (by decide), ?_⟩
        refine ⟨_, _, rfl, rfl, _, _, rfl, rfl, ⟨by decide, by decide, by decide⟩, _, _, rfl, rfl, (by show (0 : Int) < 2 ^ (63 : Int).toNat; decide), _, rfl, _, _, rfl, rfl, (by show (0 : Int) < 2; decide), _, _, rfl, rfl, .inl ⟨by decide, by decide⟩, _, _, rfl, rfl, _, _, rfl, rfl, ?_, ?_⟩
        · refine wide_mul (show _ < 2 ^ 64 from ?_) (show _ < 2 ^ 30 from ?_) (by decide) (by decide) (by decide)
          · refine Nat.lt_of_lt_of_le (m := 9223372036854775808) ?_ (by decide)
            have m0 := Int.emod_nonneg (r7 * (1 + 2 * r8) + 1) (show ((2 : Int) ^ (63 : Int).toNat) ≠ 0 by decide)
            have m1 := Int.emod_lt_of_pos (r7 * (1 + 2 * r8) + 1) (show (0 : Int) < 2 ^ (63 : Int).toNat by decide)
            rw [b63] at m0 m1 ⊢
            omega
          · exact Nat.lt_of_le_of_lt (show _ ≤ 10 by omega) (by decide)
        · refine ⟨_, ?_, (fun z => nomatch z), rfl, (((D4.trans d5).trans d6).trans d7).trans d8, w8.mono (by omega)⟩
          have m0 := Int.emod_nonneg (r7 * (1 + 2 * r8) + 1) (show ((2 : Int) ^ (63 : Int).toNat) ≠ 0 by decide)
          have m1 := Int.emod_lt_of_pos (r7 * (1 + 2 * r8) + 1) (show (0 : Int) < 2 ^ (63 : Int).toNat by decide)
          rw [b63] at m0 m1 ⊢
          generalize (r7 * (1 + 2 * r8) + 1) % 9223372036854775808 = u at *
          rcases (by omega : (r5 - 9) % 2 = 0 ∨ (r5 - 9) % 2 = 1) with e | e
          · rw [e]
            omega
          · rw [e]
            omega
    obtain ⟨F, hF, hFs, rfl, D8, w8⟩ := hM
    refine ⟨_, rfl, _, rfl, _, rfl, _, _, rfl, rfl, a, c + 8, R + 1, rfl, w8, by omega, by omega, Nat.lt_of_le_of_lt (show _ ≤ 1000 by omega) (by decide +kernel), fun r9 H9 r90 r91 d9 e9 w9 => ⟨_, rfl, (by show 4 ≤ sizeLine; decide), fun p hp => ?_⟩⟩
    obtain ⟨mn, rfl⟩ : ∃ n : Nat, r9 = (n : Int) := ⟨r9.toNat, by omega⟩
    exact fin (.times F mn hn) _ (D8.trans d9) (w9.mono (by omega)) ⟨hF, by omega, hn1⟩ (show (mn : Int) ≤ R by omega) hFs p hp
end
end E1

namespace E1
open PySem PySem.Spec PyProof.Rows L2

theorem TsAt.push {H : Hp} {l p : Addr} {vs xs : List V} {xss : List (List V)} (hl : H l = some (.lst vs)) (t : TsAt H vs xss) (hp : H p = some (.tup xs)) : TsAt (upd H l (.lst (vs ++ [.ref p]))) (vs ++ [.ref p]) (xss ++ [xs]) := by
  refine TsAt.app (t.but SameBut.upd hl) (.cons ?_ .nil)
  rw [upd_ne (ne_of hp hl (fun z => nomatch z))]
  exact hp
def BegOk (hc : Nat) : Row → Prop
  | .inn => True
  | .old k => k < hc
  | _ => False
def spLBegin : Sp := fun vs H Q _ => ∃ (a : Addr) (hc : Nat) (c : Int), vs = [.ref a, .int hc] ∧ hc ≤ 3 ∧ WellAt H a c ∧ 0 ≤ c ∧ c ≤ 10000 ∧
  ∀ (rows : List Row) (l : Addr) (H' : Hp), (∀ r ∈ rows, BegOk hc r) → 1 ≤ rows.length → rows.length ≤ 6 → SameBut a H H' → WellAt H' a (c + 20) → l ≠ a → H l = none → TL7 H' l (rows.map Row.vs) → Q (.ref l) H'
/-- but for two -/
def SameBut2 (a l : Addr) (H H' : Hp) : Prop := ∀ b o, b ≠ a → b ≠ l → H b = some o → H' b = some o
theorem SameBut2.trans {a l : Addr} {H H1 H2 : Hp} (x : SameBut2 a l H H1) (y : SameBut2 a l H1 H2) : SameBut2 a l H H2 := fun b o n m e => y b o n m (x b o n m e)
theorem SameBut2.refl (a l : Addr) (H : Hp) : SameBut2 a l H H := fun _ _ _ _ e => e
theorem SameBut2.one {a l : Addr} {H H' : Hp} (s : SameBut a H H') : SameBut2 a l H H' := fun b o n _ e => s b o n e
theorem SameBut2.two {a l : Addr} {H H' : Hp} (s : SameBut l H H') : SameBut2 a l H H' := fun b o _ m e => s b o m e
theorem SameBut2.of {a l : Addr} {H H' : Hp} (s : Same H H') : SameBut2 a l H H' := fun b o _ _ e => s b o e
def MixRow (n0 : Nat) (M : Int) : Row → Prop
  | .times f m a => a < n0 ∧ (m : Int) ≤ M ∧ f.natAbs ≤ 9
  | .plus _ _ => True
  | .less _ _ => True
  | _ => False
def spLMixed : Sp := fun vs H Q _ => ∃ (a l : Addr) (rows : List Row) (M c : Int), vs = [.ref a, .ref l, .int M] ∧ TL7 H l (rows.map Row.vs) ∧ l ≠ a ∧ 0 ≤ M ∧ M ≤ 6 ∧ 1 ≤ rows.length ∧ rows.length ≤ 6 ∧ WellAt H a c ∧ 0 ≤ c ∧ c ≤ 10000 ∧
  ∀ (ex : List Row) (last : Nat) (H' : Hp), (∀ r ∈ ex, MixRow rows.length M r) → (∀ i r, (rows ++ ex)[i]? = some r → rows.length ≤ i → ∀ hc fc, RowOk hc fc i r) → last < (rows ++ ex).length → ex.length ≤ 10 → SameBut2 a l H H' → WellAt H' a (c + 20) → TL7 H' l ((rows ++ ex).map Row.vs) → Q (.int last) H'
def spLLink (K : PySem.W.Frag) : Sp := fun vs H Q _ => ∃ (a l : Addr) (rows : List Row) (kd last : Nat) (c : Int), vs = [.ref a, .ref l, .int kd, .int last] ∧ TL7 H l (rows.map Row.vs) ∧ l ≠ a ∧ last < rows.length ∧ rows.length ≤ 50 ∧ WellAt H a c ∧ 0 ≤ c ∧ c ≤ 10000 ∧
  ∀ (ex : List Row) (j x : Nat) (H' : Hp), (ex = [] ∨ ex = [.keep kd x] ∧ x < rows.length) → (∃ y, (rows ++ ex)[j]? = some (.keep kd y)) → SameBut2 a l H H' → WellAt H' a (c + 5) → TL7 H' l ((rows ++ ex).map Row.vs) → Q (.int j) H'
theorem range_snoc {β : Type} (f : Nat → β) (i : Nat) : (List.range (i + 1)).map f = (List.range i).map f ++ [f i] := by
  rw [List.range_succ, List.map_append]
  rfl
theorem snoc_at {rows ex : List Row} {r r' : Row} {i : Nat} (h : (rows ++ (ex ++ [r']))[i]? = some r) : (rows ++ ex)[i]? = some r ∨ (i = (rows ++ ex).length ∧ r = r') := by
  rw [← List.append_assoc] at h
  by_cases c : i < (rows ++ ex).length
  · rw [List.getElem?_append_left c] at h
    exact .inl h
  · rw [List.getElem?_append_right (by omega)] at h
    have : i - (rows ++ ex).length = 0 := by
      have := (List.getElem?_eq_some_iff.mp h).1
      simp only [List.length_singleton] at this
      omega
    rw [this] at h
    refine .inr ⟨by omega, (Option.some.inj h).symm⟩
section
variable {P : Program} {w : World} {K : PySem.W.Frag} {mg : Str → Option Value} {base : Heap}
theorem sc__law_begin : FnScope ["_law_well_here", "_law_held", "_law_k", "_law_made_here", "_law_at"] ["_law_well_here", "_law_held"] (defScope s__law_begin) := ⟨rfl, rfl, rfl, by decide +kernel, rfl, by decide +kernel, by decide +kernel⟩
theorem ok__law_begin {f : Addr} {fd : FuncData} (F : Fun K "_law_begin" "_law_begin" s__law_begin f fd) (z : Zs mg) (c__law_draw : Cal P w K mg base 1 "_law_draw" ["_law_well_here", "_law_many"] spDraw) : FnOk P w K mg base CX0 2 f fd ["_law_well_here", "_law_held"] spLBegin := by
  refine F.ok sc__law_begin (fun vs H Q E h => ?_) (fun cdv A outer s H vs Q E hr h => ?_)
  · obtain ⟨a, hc, c, rfl, _⟩ := h
    rfl
  · obtain ⟨a, hc, c, rfl, hc3, hw, c0, c1, q⟩ := h
    refine ⟨_, (pss_cons (ps_if (pt_cmpR op_eq (pe_cal c__law_draw hr (pa_cons (pv 0) (pa_cons pe_int pa_nil))) pe_int (nomark _)) (pss_one (ps_ret (pe_op op_cat (pe_lst (pa_cons (pe_tup (pa_cons pe_str pa_nil)) pa_nil)) (pe_lc (own := [("_law_k", 2)]) (g := gName 2) (tt := tYes) (te := (tTup (tCons (tC (.str "old")) (tCons (tVar 2) tNil)))) (by rfl) sc__law_begin.nd (pi_range1 (by rfl) z.range (pa_cons (pv 1) pa_nil)) (blkOk_by (own := [("_law_k", 2)]) (N := ["_law_well_here", "_law_held", "_law_k", "_law_made_here", "_law_at"]) (sc := defScope s__law_begin) (by decide +kernel)) (fun _ _ _ _ _ => by exact (pg_name (i := 2) sc__law_begin.nd rfl (.inl rfl))) (fun _ _ _ _ _ => by exact pts_nil) (fun _ _ _ _ _ => by exact (pe_tup (pa_cons pe_str (pa_cons (pv 2) pa_nil)))))))) pss_nil)
      (pss_cons (ps_set (i := 3) sc__law_begin.nd rfl (.inl rfl) (pe_lst pa_nil))
      (pss_cons (ps_for PassesOwn.never rfl (pi_range1 (by rfl) z.range (pa_cons (pe_op op_add pe_int (pe_cal c__law_draw hr (pa_cons (pv 0) (pa_cons (pe_op op_add (pv 1) pe_int) pa_nil)))) pa_nil)) (pg_name (i := 2) sc__law_begin.nd rfl (.inl rfl)) (pss_cons (ps_set (i := 4) sc__law_begin.nd rfl (.inl rfl) (pe_cal c__law_draw hr (pa_cons (pv 0) (pa_cons (pe_op op_add (pv 1) pe_int) pa_nil))))
      (pss_one (ps_expr (pe_bm PySem.F.plainAttrs_list PySem.F.slot_list_append PySem.F.type_list_append mt_append (pv 3) (pa_cons (pe_ix ix_list (pe_lst (pa_cons (pe_tup (pa_cons pe_str pa_nil)) (pa_cons (pe_tup (pa_cons pe_str (pa_cons (pe_op op_sub (pv 4) pe_int) pa_nil))) pa_nil))) (pe_callTy call_int1 (by rfl) z.int (by decide +kernel) (pa_cons (pe_cmpR op_gt (pv 4) pe_int (nomark _)) pa_nil)) (fun _ _ => rfl)) pa_nil))))))
      (pss_one (ps_ret (pv 3)))))), ?_⟩
    obtain ⟨wxs, hwx⟩ := hw.lst
    refine ⟨_, rfl, a, c, 3, rfl, hw, by omega, by decide, by decide +kernel, fun r1 H1 r10 r11 d1 e1 w1 => ⟨rfl, _, rfl, ite2 (fun _ => ?_) (fun _ => ?_)⟩⟩
    · refine ⟨(by show 1 ≤ sizeLine; decide), fun t ht => ?_⟩
      generalize hG : upd _ t _ = G1
      obtain ⟨s1, h_t⟩ := upd_gen hG ht
      refine ⟨(by show 1 ≤ sizeLine; decide), fun l1 hl1 => ?_⟩
      generalize hG2 : upd _ l1 _ = G2
      obtain ⟨s2, h_l1⟩ := upd_gen hG2 hl1
      refine ⟨_, rfl, hc, rfl, by omega, by omega, fun Dl hD => ?_⟩
      refine lc_it walk_range (fun i G => Same G2 G ∧ ∃ ws, G Dl = some (.lst ws) ∧ ws.length = i ∧ TsAt G ws ((List.range i).map fun k => (Row.old k).vs)) ⟨same_new hD, [], upd_same, rfl, .nil⟩ (fun _ _ _ _ => trivial) (fun i x G G' hi hP hY => ?_) (fun G hP => ?_)
      · obtain ⟨s3, ws, hd, lw, ht3⟩ := hP
        obtain ⟨rfl, rfl⟩ := hY
        refine ⟨rfl, _, rfl, (by show 2 ≤ sizeLine; decide), fun p hp => ?_⟩
        generalize hG3 : upd _ p _ = G3
        obtain ⟨s4, h_p⟩ := upd_gen hG3 hp
        have hd4 := s4 _ _ hd
        refine ⟨ws, hd4, sl_lt (by omega), fun b o e => ?_, _, upd_same, by rw [List.length_append, lw]; rfl, ?_⟩
        · rw [upd_ne (ne_of_none e hD)]
          exact s4 _ _ (s3 _ _ e)
        · rw [range_snoc]
          refine TsAt.push hd4 (ht3.same s4) ?_
          rw [h_p]
          show some (HO.tup [V.str "old", V.int (0 + (i : Int))]) = some (.tup [.str "old", .int (i : Int)])
          rw [Int.zero_add]
      · obtain ⟨s3, ws, hd, lw, ht3⟩ := hP
        refine ⟨l1, Dl, _, _, rfl, rfl, s3 _ _ h_l1, hd, sl_le (by simp only [List.length_singleton]; omega), fun l hl => ?_⟩
        generalize hG3 : upd _ l _ = G3
        obtain ⟨s4, h_l⟩ := upd_gen hG3 hl
        have S : Same H1 G3 := (s1.trans s2).trans (s3.trans s4)
        have w3 := w1.same S
        have nl : l ≠ a := ((w1.same ((s1.trans s2).trans s3))).ne hl
        refine q (.inn :: (List.range hc).map Row.old) l _ (fun r hr => ?_) (by simp) (by simp; omega) (d1.trans (.of S)) (w3.mono (by omega)) nl (same_free d1 hwx (((s1.trans s2).trans s3).free hl) nl) ⟨_, h_l, ?_⟩
        · rcases List.mem_cons.mp hr with rfl | hr
          · trivial
          · obtain ⟨k, hk, rfl⟩ := List.mem_map.mp hr
            exact List.mem_range.mp hk
        · refine TsAt.cons (s4 _ _ (s3 _ _ (s2 _ _ h_t))) ?_
          rw [List.map_map]
          exact ht3.same s4
    · refine ⟨(by show 0 ≤ sizeLine; decide), fun l hl => ?_⟩
      generalize hG : upd _ l _ = G0
      obtain ⟨s0, h_l⟩ := upd_gen hG hl
      have nl : l ≠ a := w1.ne hl
      have w0 := w1.same s0
      have hl0 : H l = none := same_free d1 hwx hl nl
      refine ⟨_, rfl, _, rfl, _, _, rfl, rfl, a, c + 1, (hc : Int) + 3, rfl, w0, by omega, by omega, Nat.lt_of_le_of_lt (show _ ≤ 1000 by omega) (by decide +kernel), fun r2 H2 r20 r21 d2 e2 w2 => ⟨_, _, rfl, rfl, (1 + r2).toNat, by rw [Int.toNat_of_nonneg (by omega)], by omega, by omega, ?_⟩⟩
      replace h_l := d2 _ _ nl h_l
      refine for_it walk_range (fun i σ G => ∃ (rows : List Row) (y1 y2 : Option V), σ = [some (.ref a), some (.int hc), y1, some (.ref l), y2] ∧ rows.length = i ∧ (∀ r ∈ rows, BegOk hc r) ∧ SameBut a H G ∧ WellAt G a (c + 2 + i) ∧ TL7 G l (rows.map Row.vs)) ⟨[], none, none, rfl, rfl, (fun r h => nomatch h), (d1.trans (.of s0)).trans d2, w2.mono (by omega), [], h_l, .nil⟩ (fun _ _ _ _ _ => trivial) (fun i x σ G G' hi hP hY => ?_) (fun σ G hP => ?_)
      · obtain ⟨rows, y1, y2, rfl, lr, hb, sb, wl, rv, hrv, ht⟩ := hP
        obtain ⟨rfl, rfl⟩ := hY
        have i6 : i < 6 := by omega
        refine ⟨_, rfl, _, rfl, _, _, rfl, rfl, a, c + 2 + i, (hc : Int) + 1, rfl, wl, by omega, by omega, Nat.lt_of_le_of_lt (show _ ≤ 1000 by omega) (by decide +kernel), fun r3 H3 r30 r31 d3 e3 w3 => ?_⟩
        have hrv3 := d3 _ _ nl hrv
        obtain ⟨gxs, hgx⟩ := wl.lst
        have ht3 := ht.but d3 hgx
        refine ⟨_, rfl, .inl ⟨rfl, _, SqL.of hrv3⟩, (by show 1 ≤ sizeLine; decide), fun t1 ht1 => ?_⟩
        generalize hG1 : upd _ t1 _ = G1
        obtain ⟨s1, h_t1⟩ := upd_gen hG1 ht1
        refine ⟨_, rfl, _, _, rfl, rfl, (by show 2 ≤ sizeLine; decide), fun t2 ht2 => ?_⟩
        generalize hG2 : upd _ t2 _ = G2
        obtain ⟨s2, h_t2⟩ := upd_gen hG2 ht2
        refine ⟨(by show 2 ≤ sizeLine; decide), fun l3 hl3 => ?_⟩
        generalize hG3 : upd _ l3 _ = G3
        obtain ⟨s3, h_l3⟩ := upd_gen hG3 hl3
        have S := (s1.trans s2).trans s3
        replace h_t1 := s3 _ _ (s2 _ _ h_t1)
        replace h_t2 := s3 _ _ h_t2
        have hrv4 := S _ _ hrv3
        have ht4 := ht3.same S
        have w4 := w3.same S
        obtain ⟨r, p, hix, hbr, hpr⟩ : ∃ (r : Row) (p : Addr), atI [V.ref t1, V.ref t2] (if decide (r3 > 0) = true then 1 else 0) = some (.ref p) ∧ BegOk hc r ∧ G3 p = some (.tup r.vs) := by
          by_cases k : r3 > 0
          · refine ⟨.old (r3 - 1).toNat, t2, by rw [decide_eq_true k]; exact a1, show (r3 - 1).toNat < hc by omega, ?_⟩
            rw [h_t2]
            show some (HO.tup [V.str "old", V.int (r3 - 1)]) = some (.tup [.str "old", .int (((r3 - 1).toNat : Nat) : Int)])
            rw [show (((r3 - 1).toNat : Nat) : Int) = r3 - 1 by omega]
          · exact ⟨.inn, t1, by rw [decide_eq_false k]; exact a0, trivial, h_t1⟩
        refine ⟨_, rfl, _, _, rfl, rfl, .inr ⟨_, rfl, l3, _, _, .ref p, rfl, rfl, SqL.of h_l3, hix, l, _, _, rfl, rfl, hrv4, ?_, ?_⟩⟩
        · have := ht4.len
          rw [List.length_map] at this
          exact sl_lt (by omega)
        · refine ⟨rows ++ [r], _, _, rfl, by rw [List.length_append, lr]; rfl, fun x hx => ?_, ?_, ?_, _, upd_same, ?_⟩
          · rcases List.mem_append.mp hx with hx | hx
            · exact hb x hx
            · rw [List.mem_singleton.mp hx]
              exact hbr
          · refine fun b o n e => ?_
            rw [upd_ne (ne_of_none e hl0)]
            exact S _ _ (d3 _ _ n (sb _ _ n e))
          · exact (w4.but SameBut.upd nl.symm).mono (by omega)
          · rw [List.map_append]
            exact TsAt.push hrv4 ht4 hpr
      · obtain ⟨rows, y1, y2, rfl, lr, hb, sb, wl, tl⟩ := hP
        refine ⟨_, rfl, q rows l _ hb ?_ ?_ sb (wl.mono ?_) nl hl0 tl⟩
        all_goals omega
end
end E1

namespace E1
open PySem PySem.Spec PyProof.Rows L2

theorem TL7.push {G : Hp} {l p : Addr} {rows : List Row} {r : Row} {vs : List V} (hl : G l = some (.lst vs)) (t : TsAt G vs (rows.map Row.vs)) (hp : G p = some (.tup r.vs)) : TL7 (upd G l (.lst (vs ++ [.ref p]))) l ((rows ++ [r]).map Row.vs) := by
  refine ⟨_, upd_same, ?_⟩
  rw [List.map_append]
  exact TsAt.push hl t hp
theorem TsAt.rlen {G : Hp} {rows : List Row} {vs : List V} (t : TsAt G vs (rows.map Row.vs)) : vs.length = rows.length := by
  rw [t.len, List.length_map]
theorem snoc_len {rows ex : List Row} {r : Row} : (rows ++ (ex ++ [r])).length = (rows ++ ex).length + 1 := by simp only [List.length_append, List.length_singleton]; omega
/-- a row's first two things -/
def Row.d2 : Row → List PyData
  | .inn => [.str "in"]
  | .old k => [.str "old", .int k]
  | .times f _ _ => [.str "times", .int f]
  | .plus a _ => [.str "plus", .int a]
  | .less a _ => [.str "less", .int a]
  | .move m _ => [.str "move", .int m]
  | .keep f _ => [.str "keep", .int f]
theorem Row.d2_shaped (r : Row) : SeqAt.shaped (.tuple r.d2) = true := by
  have k1 : ∀ (z : Str) (k : Int), PyData.canLay0 (.str z) = true → SeqAt.shaped (.tuple [.str z, .int k]) = true := fun z k h => by
    show (PyData.canLay0 (.tuple [.str z, .int k]) && decide (PyData.depth (.tuple [.str z, .int k]) ≤ 64)) = true
    have e : PyData.canLay0 (.tuple [.str z, .int k]) = true := by
      simp only [PyData.canLay0, PyData.canLayAll0, Bool.and_true] at h ⊢
      exact h
    rw [e, Bool.true_and]
    simp only [PyData.depth, PyData.depthAll]
    rfl
  cases r with
  | inn => exact (by decide +kernel : SeqAt.shaped (.tuple [.str "in"]) = true)
  | old k => exact k1 _ _ (by simp only [PyData.canLay0]; decide +kernel)
  | times f m a => exact k1 _ _ (by simp only [PyData.canLay0]; decide +kernel)
  | plus a b => exact k1 _ _ (by simp only [PyData.canLay0]; decide +kernel)
  | less a b => exact k1 _ _ (by simp only [PyData.canLay0]; decide +kernel)
  | move m a => exact k1 _ _ (by simp only [PyData.canLay0]; decide +kernel)
  | keep f a => exact k1 _ _ (by simp only [PyData.canLay0]; decide +kernel)
theorem Row.d2_keep (r : Row) (kd : Nat) (h : PyData.eqv (.tuple r.d2) (.tuple [.str "keep", .int kd]) = true) : ∃ y, r = .keep kd y := by
  have ne : ∀ (z : Str), (z == ("keep" : Str)) = false → ∀ t, PyData.eqv (.tuple (.str z :: t)) (.tuple [.str "keep", .int kd]) = true → False := fun z hz t e => by
    simp only [PyData.eqv, PyData.eqvAll] at e
    rw [hz] at e
    cases e
  cases r with
  | inn => exact (ne _ (by decide +kernel) _ h).elim
  | old k => exact (ne _ (by decide +kernel) _ h).elim
  | times f m a => exact (ne _ (by decide +kernel) _ h).elim
  | plus a b => exact (ne _ (by decide +kernel) _ h).elim
  | less a b => exact (ne _ (by decide +kernel) _ h).elim
  | move m a => exact (ne _ (by decide +kernel) _ h).elim
  | keep f a =>
    simp only [Row.d2, PyData.eqv, PyData.eqvAll, Bool.and_true, Bool.and_eq_true, beq_iff_eq] at h
    have := h.2
    refine ⟨a, ?_⟩
    congr 1
    omega
theorem Row.dp1 {K : PySem.W.Frag} {H : Hp} (r : Row) (h : HT.sIx r.vs.length 0 none = 0 ∧ HT.sIx r.vs.length r.vs.length (some 2) = r.vs.length) : DpAll K H r.vs r.d2 := by
  cases r with
  | inn => exact .cons (.str _) .nil
  | old k => exact .cons (.str _) (.cons (.int _) .nil)
  | times f m a => exact absurd h (by show ¬ (HT.sIx 4 0 none = 0 ∧ HT.sIx 4 4 (some 2) = 4); decide)
  | plus a b => exact absurd h (by show ¬ (HT.sIx 3 0 none = 0 ∧ HT.sIx 3 3 (some 2) = 3); decide)
  | less a b => exact absurd h (by show ¬ (HT.sIx 3 0 none = 0 ∧ HT.sIx 3 3 (some 2) = 3); decide)
  | move m a => exact absurd h (by show ¬ (HT.sIx 3 0 none = 0 ∧ HT.sIx 3 3 (some 2) = 3); decide)
  | keep f a => exact absurd h (by show ¬ (HT.sIx 3 0 none = 0 ∧ HT.sIx 3 3 (some 2) = 3); decide)
theorem Row.dp2 {K : PySem.W.Frag} {H : Hp} (r : Row) : DpAll K H (cutV r.vs none (some 2)) r.d2 := by
  cases r with
  | inn => exact .cons (.str _) .nil
  | old k => exact .cons (.str _) (.cons (.int _) .nil)
  | times f m a => exact .cons (.str _) (.cons (.int _) .nil)
  | plus a b => exact .cons (.str _) (.cons (.int _) .nil)
  | less a b => exact .cons (.str _) (.cons (.int _) .nil)
  | move m a => exact .cons (.str _) (.cons (.int _) .nil)
  | keep f a => exact .cons (.str _) (.cons (.int _) .nil)
theorem dp_nats {K : PySem.W.Frag} {H : Hp} : ∀ ns : List Nat, DpAll K H (ns.map fun n : Nat => V.int (n : Int)) ((ns.map fun n : Nat => (n : Int)).map PyData.int)
  | [] => .nil
  | _ :: ns => .cons (.int _) (dp_nats ns)
section
variable {P : Program} {w : World} {K : PySem.W.Frag} {mg : Str → Option Value} {base : Heap}
theorem sc__law_mixed : FnScope ["_law_well_here", "_law_made_here", "_law_reach", "_law_last", "_law_at", "_law_factor"] ["_law_well_here", "_law_made_here", "_law_reach"] (defScope s__law_mixed) := ⟨rfl, rfl, rfl, by decide +kernel, rfl, by decide +kernel, by decide +kernel⟩
theorem ok__law_mixed {f : Addr} {fd : FuncData} (F : Fun K "_law_mixed" "_law_mixed" s__law_mixed f fd) (z : Zs mg) (c__law_draw : Cal P w K mg base 1 "_law_draw" ["_law_well_here", "_law_many"] spDraw) : FnOk P w K mg base CX0 2 f fd ["_law_well_here", "_law_made_here", "_law_reach"] spLMixed := by
  refine F.ok sc__law_mixed (fun vs H Q E h => ?_) (fun cdv A outer s H vs Q E hr h => ?_)
  · obtain ⟨a, l, rows, M, c, rfl, _⟩ := h
    rfl
  · obtain ⟨a, l, rows, M, c, rfl, ⟨rv, hl, ht⟩, nl, M0, M1, l1, l6, hw, c0, c1, q⟩ := h
    refine ⟨_, (pss_cons (ps_set (i := 3) sc__law_mixed.nd rfl (.inl rfl) pe_int)
      (pss_cons (ps_for PassesOwn.never rfl (pi_range2 (by rfl) z.range (pa_cons pe_int (pa_cons (pe_callB call_len_seq (by rfl) z.len PySem.boot_len (pa_cons (pv 1) pa_nil)) pa_nil))) (pg_name (i := 4) sc__law_mixed.nd rfl (.inl rfl)) (pss_cons (ps_set (i := 5) sc__law_mixed.nd rfl (.inl rfl) (pe_op op_sub (pe_cal c__law_draw hr (pa_cons (pv 0) (pa_cons pe_int pa_nil))) pe_int))
      (pss_cons (ps_expr (pe_bm PySem.F.plainAttrs_list PySem.F.slot_list_append PySem.F.type_list_append mt_append (pv 1) (pa_cons (pe_tup (pa_cons pe_str (pa_cons (pv 5) (pa_cons (pe_cal c__law_draw hr (pa_cons (pv 0) (pa_cons (pe_op op_add (pv 2) pe_int) pa_nil))) (pa_cons (pv 4) pa_nil))))) pa_nil)))
      (pss_cons (ps_expr (pe_bm PySem.F.plainAttrs_list PySem.F.slot_list_append PySem.F.type_list_append mt_append (pv 1) (pa_cons (pe_tup (pa_cons (pe_ix ix_list (pe_lst (pa_cons pe_str (pa_cons pe_str pa_nil))) (pe_cal c__law_draw hr (pa_cons (pv 0) (pa_cons pe_int pa_nil))) (fun _ _ => rfl)) (pa_cons (pv 3) (pa_cons (pe_op op_sub (pe_callB call_len_seq (by rfl) z.len PySem.boot_len (pa_cons (pv 1) pa_nil)) pe_int) pa_nil)))) pa_nil)))
      (pss_one (ps_set (i := 3) sc__law_mixed.nd rfl (.inl rfl) (pe_op op_sub (pe_callB call_len_seq (by rfl) z.len PySem.boot_len (pa_cons (pv 1) pa_nil)) pe_int)))))))
      (pss_one (ps_ret (pv 3))))), ?_⟩
    have ll := ht.rlen
    refine ⟨_, rfl, l, _, rfl, .inl (SqL.of hl), 1, _, rfl, ⟨by omega, by omega, by omega, by omega⟩, ?_⟩
    refine for_it walk_range (fun i σ G => ∃ (ex : List Row) (last : Nat) (y4 y5 : Option V), σ = [some (.ref a), some (.ref l), some (.int M), some (.int last), y4, y5] ∧ ex.length = 2 * i ∧ (∀ r ∈ ex, MixRow rows.length M r) ∧ (∀ j r, (rows ++ ex)[j]? = some r → rows.length ≤ j → ∀ hc fc, RowOk hc fc j r) ∧ last < (rows ++ ex).length ∧ SameBut2 a l H G ∧ WellAt G a (c + 3 * i) ∧ TL7 G l ((rows ++ ex).map Row.vs)) ⟨[], 0, none, none, rfl, rfl, (fun r x => nomatch x), (fun j r e k => ?_), ?_, SameBut2.refl _ _ _, hw.mono (by omega), rv, hl, by rw [List.append_nil]; exact ht⟩ (fun _ _ _ _ _ => trivial) (fun i x σ G G' hi hP hY => ?_) (fun σ G hP => ?_)
    · rw [List.append_nil] at e
      have := (List.getElem?_eq_some_iff.mp e).1
      omega
    · rw [List.append_nil]
      omega
    · obtain ⟨ex, last, y4, y5, rfl, le, hm, hk, hla, sb, wl, vs, hv, htv⟩ := hP
      obtain ⟨rfl, rfl⟩ := hY
      rw [ll] at hi
      have hi5 : i < 5 := by omega
      have at_ : (1 + i : Nat) < rows.length := by omega
      have la : (rows ++ ex).length = rows.length + 2 * i := by rw [List.length_append, le]
      have lv := htv.rlen
      obtain ⟨gx, hgx⟩ := wl.lst
      refine ⟨_, rfl, a, c + 3 * i, 19, rfl, wl, by omega, by decide, by decide +kernel, fun r1 H1 r10 r11 d1 e1 w1 => ⟨_, _, rfl, rfl, ?_⟩⟩
      obtain ⟨gx1, hgx1⟩ := w1.lst
      have hv1 := d1 _ _ nl hv
      have ht1 := htv.but d1 hgx
      refine ⟨_, rfl, .inl ⟨rfl, _, SqL.of hv1⟩, _, rfl, _, rfl, _, rfl, _, _, rfl, rfl, a, c + 3 * i + 1, M + 1, rfl, w1, by omega, by omega, Nat.lt_of_le_of_lt (show _ ≤ 1000 by omega) (by decide +kernel), fun r2 H2 r20 r21 d2 e2 w2 => ?_⟩
      obtain ⟨m, rfl⟩ : ∃ n : Nat, r2 = (n : Int) := ⟨r2.toNat, by omega⟩
      have hv2 := d2 _ _ nl hv1
      have ht2 := ht1.but d2 hgx1
      refine ⟨_, rfl, (by show 4 ≤ sizeLine; decide), fun p hp => ?_⟩
      generalize hG : upd _ p _ = G3
      obtain ⟨s3, h_p⟩ := upd_gen hG hp
      have hv3 := s3 _ _ hv2
      have ht3 := ht2.same s3
      have w3 := w2.same s3
      have hp3 : G3 p = some (.tup (Row.times (r1 - 9) m (1 + i)).vs) := by
        rw [h_p]
        show some (HO.tup [V.str "times", V.int (r1 - 9), V.int (m : Int), V.int (1 + (i : Int))]) = some (.tup [.str "times", .int (r1 - 9), .int (m : Int), .int ((1 + i : Nat) : Int)])
        rw [show ((1 + i : Nat) : Int) = 1 + (i : Int) by omega]
      refine ⟨l, _, _, rfl, rfl, hv3, sl_lt (by omega), ?_⟩
      have t4 := TL7.push hv3 ht3 hp3
      generalize hG4 : upd _ l _ = G4 at t4
      obtain ⟨s4, _⟩ := upd_but hG4
      obtain ⟨vs4, hv4, ht4⟩ := t4
      have lv4 := ht4.rlen
      rw [List.length_append, List.length_singleton] at lv4
      have w4 := w3.but s4 nl.symm
      refine ⟨_, rfl, .inl ⟨rfl, _, SqL.of hv4⟩, (by show 2 ≤ sizeLine; decide), fun l5 hl5 => ?_⟩
      generalize hG5 : upd _ l5 _ = G5
      obtain ⟨s5, h_l5⟩ := upd_gen hG5 hl5
      have w5 := w4.same s5
      have n5 := w4.ne hl5
      obtain ⟨gx5, hgx5⟩ := w5.lst
      refine ⟨_, rfl, a, c + 3 * i + 1 + 1, 2, rfl, w5, by omega, by decide, by decide +kernel, fun r6 H6 r60 r61 d6 e6 w6 => ?_⟩
      have hv6 := d6 _ _ nl (s5 _ _ hv4)
      have ht6 := (ht4.same s5).but d6 hgx5
      obtain ⟨v, i3, o3⟩ := twoI (x := V.str "plus") (y := V.str "less") r60 r61
      refine ⟨l5, _, r6, _, rfl, rfl, SqL.of (d6 _ _ n5 h_l5), i3, _, rfl, _, rfl, l, _, rfl, .inl (SqL.of hv6), _, _, rfl, rfl, (by show 3 ≤ sizeLine; decide), fun p7 hp7 => ?_⟩
      generalize hG7 : upd _ p7 _ = G7
      obtain ⟨s7, h_p7⟩ := upd_gen hG7 hp7
      obtain ⟨r, hr, hp8, rok, rmx⟩ : ∃ r : Row, (r = .plus last (rows.length + 2 * i) ∨ r = .less last (rows.length + 2 * i)) ∧ G7 p7 = some (.tup r.vs) ∧ (∀ hc fc, RowOk hc fc (rows.length + 2 * i + 1) r) ∧ MixRow rows.length M r := by
        have e : (vs4.length : Int) - 1 = ((rows.length + 2 * i : Nat) : Int) := by omega
        dsimp only at h_p7
        rw [e] at h_p7
        rcases o3 with rfl | rfl
        · exact ⟨_, .inl rfl, h_p7, fun _ _ => ⟨by omega, by omega⟩, trivial⟩
        · exact ⟨_, .inr rfl, h_p7, fun _ _ => ⟨by omega, by omega⟩, trivial⟩
      have hv7 := s7 _ _ hv6
      refine ⟨l, _, _, rfl, rfl, hv7, sl_lt (by omega), ?_⟩
      have t8 := TL7.push hv7 (ht6.same s7) hp8
      generalize hG8 : upd _ l _ = G8 at t8
      obtain ⟨s8, _⟩ := upd_but hG8
      obtain ⟨vs8, hv8, ht8⟩ := t8
      have lv8 := ht8.rlen
      rw [List.length_append, List.length_append, List.length_singleton, List.length_singleton] at lv8
      refine ⟨_, rfl, l, _, rfl, .inl (SqL.of hv8), _, _, rfl, rfl, ex ++ [.times (r1 - 9) m (1 + i)] ++ [r], rows.length + 2 * i + 1, some (.int (1 + (i : Int))), some (.int (r1 - 9)), ?_, ?_, ?_, ?_, ?_, ?_, ?_, vs8, hv8, ?_⟩
      · have e : (vs8.length : Int) - 1 = ((rows.length + 2 * i + 1 : Nat) : Int) := by omega
        show [some (V.ref a), some (V.ref l), some (V.int M), some (V.int ((vs8.length : Int) - 1)), some (V.int (1 + (i : Int))), some (V.int (r1 - 9))] = _
        rw [e]
      · simp only [List.length_append, List.length_singleton]
        omega
      · intro x hx
        rcases List.mem_append.mp hx with hx | hx
        · rcases List.mem_append.mp hx with hx | hx
          · exact hm x hx
          · rw [List.mem_singleton.mp hx]
            exact ⟨at_, by omega, by omega⟩
        · rw [List.mem_singleton.mp hx]
          exact rmx
      · intro j x e kk hc fc
        rcases snoc_at e with e | ⟨rfl, rfl⟩
        · rcases snoc_at e with e | ⟨rfl, rfl⟩
          · exact hk j x e kk hc fc
          · rw [la]
            exact ⟨by omega, by omega, by omega⟩
        · rw [snoc_len, la]
          exact rok hc fc
      · rw [snoc_len, snoc_len, la]
        omega
      · exact sb.trans ((SameBut2.one (d1.trans (d2.trans (.of s3)))).trans ((SameBut2.two s4).trans ((SameBut2.one ((SameBut.of s5).trans (d6.trans (.of s7)))).trans (.two s8))))
      · exact ((w6.same s7).but s8 nl.symm).mono (by omega)
      · rw [← List.append_assoc, ← List.append_assoc]
        exact ht8
    · obtain ⟨ex, last, y4, y5, rfl, le, hm, hk, hla, sb, wl, tl⟩ := hP
      rw [ll] at le wl
      exact ⟨_, rfl, q ex last G hm hk hla (by omega) sb (wl.mono (by omega)) tl⟩
theorem sc__law_link : FnScope ["_law_well_here", "_law_made_here", "_law_kind", "_law_last", "_law_some", "_law_at", "_law_thing"] ["_law_well_here", "_law_made_here", "_law_kind", "_law_last"] (defScope s__law_link) := ⟨rfl, rfl, rfl, by decide +kernel, rfl, by decide +kernel, by decide +kernel⟩
theorem ok__law_link {f : Addr} {fd : FuncData} (F : Fun K "_law_link" "_law_link" s__law_link f fd) (z : Zs mg) (c__law_draw : Cal P w K mg base 1 "_law_draw" ["_law_well_here", "_law_many"] spDraw) : FnOk P w K mg base CX0 2 f fd ["_law_well_here", "_law_made_here", "_law_kind", "_law_last"] (spLLink K) := by
  refine F.ok sc__law_link (fun vs H Q E h => ?_) (fun cdv A outer s H vs Q E hr h => ?_)
  · obtain ⟨a, l, rows, kd, last, c, rfl, _⟩ := h
    rfl
  · obtain ⟨a, l, rows, kd, last, c, rfl, ⟨rv, hl, ht⟩, nl, la, lr, hw, c0, c1, q⟩ := h
    refine ⟨_, (pss_cons (ps_setLc (i := 4) (own := [("_law_at", 5), ("_law_thing", 6)]) (g := gTup K 2 (gCons (gName 5) (gCons (gName 6) gNil))) (te := (tVar 5)) (tt := (tTest (tOp (rEqD K) (tSl (rSlA K) (tVar 6) tNoPart (tPart (tC (.int 2)))) (tTup (tCons (tC (.str "keep")) (tCons (tVar 2) tNil)))))) (by rfl) sc__law_link.nd rfl rfl (sw_true rfl rfl rfl (by decide +kernel)) (pi_enum (by rfl) z.enumerate (pa_cons (pv 1) pa_nil)) (blkOk_by (own := [("_law_at", 5), ("_law_thing", 6)]) (N := ["_law_well_here", "_law_made_here", "_law_kind", "_law_last", "_law_some", "_law_at", "_law_thing"]) (sc := defScope s__law_link) (by decide +kernel)) (fun _ _ _ _ _ => by exact (pg_tup (by rfl) (pgs_cons (pg_name (i := 5) sc__law_link.nd rfl (.inl rfl)) (pgs_cons (pg_name (i := 6) sc__law_link.nd rfl (.inl rfl)) pgs_nil)))) (fun _ _ _ _ _ => by exact (pts_one (pt_cmpR (op_eqD hr.units) (pe_slice sl_tupA (pv 6) po_none (po_some pe_int)) (pe_tup (pa_cons pe_str (pa_cons (pv 2) pa_nil))) (nomark _)))) (fun _ _ _ _ _ => by exact (pv 5)))
      (C8.pss_cut (ps_if (PW.pt (pw_and (pt_cmpR (op_neD hr.units) (pv 4) (pe_lst pa_nil) (nomark _)) (pw_and1 (pt_cmpR op_eq (pe_cal c__law_draw hr (pa_cons (pv 0) (pa_cons pe_int pa_nil))) pe_int (nomark _))))) (pss_one (ps_ret (pe_ix ix_list (pv 4) (pe_cal c__law_draw hr (pa_cons (pv 0) (pa_cons (pe_callB call_len_seq (by rfl) z.len PySem.boot_len (pa_cons (pv 4) pa_nil)) pa_nil))) (fun _ _ => rfl)))) pss_nil)
      (pss_cons (ps_expr (pe_bm PySem.F.plainAttrs_list PySem.F.slot_list_append PySem.F.type_list_append mt_append (pv 1) (pa_cons (pe_tup (pa_cons pe_str (pa_cons (pv 2) (pa_cons (pe_ix ix_list (pe_lst (pa_cons (pv 3) (pa_cons (pe_op op_sub (pe_callB call_len_seq (by rfl) z.len PySem.boot_len (pa_cons (pv 1) pa_nil)) pe_int) (pa_cons (pe_cal c__law_draw hr (pa_cons (pv 0) (pa_cons (pe_callB call_len_seq (by rfl) z.len PySem.boot_len (pa_cons (pv 1) pa_nil)) pa_nil))) pa_nil)))) (pe_cal c__law_draw hr (pa_cons (pv 0) (pa_cons pe_int pa_nil))) (fun _ _ => rfl)) pa_nil)))) pa_nil)))
      (pss_one (ps_ret (pe_op op_sub (pe_callB call_len_seq (by rfl) z.len PySem.boot_len (pa_cons (pv 1) pa_nil)) pe_int)))))), ?_⟩
    have ll := ht.rlen
    refine ⟨_, rfl, l, _, rfl, SqL.of hl, fun D hD => ?_⟩
    refine lc_it (walk_enum (K := K) (a := l) (xs := rv)) (fun i G => Same H G ∧ ∃ ns : List Nat, G D = some (.lst (ns.map fun n : Nat => V.int (n : Int))) ∧ ns.length ≤ i ∧ ∀ n ∈ ns, ∃ y, rows[n]? = some (.keep kd y)) ⟨same_new hD, [], upd_same, Nat.le_refl _, (fun n x => nomatch x)⟩ (fun i G _ hP => SqL.of (hP.1 _ _ hl)) (fun i v G G' hi hP hY => ?_) (fun G hP => ?_)
    · obtain ⟨s1, ns, hd, ln, hns⟩ := hP
      obtain ⟨Tp, u, v', rfl, nT, rfl, e1, e2⟩ := hY
      cases e1
      obtain ⟨p, xs, rfl, ex, hp⟩ := ht.get e2
      rw [List.getElem?_map] at ex
      obtain ⟨r, er, rfl⟩ := Option.map_eq_some_iff.mp ex
      have sN := same_new (o := .tup [.int (i : Nat), .ref p]) nT
      replace hp := s1 _ _ hp
      refine ⟨Tp, _, rfl, SqT.of upd_same, rfl, _, _, rfl, _, _, rfl, rfl, rfl, ?_⟩
      refine ⟨_, rfl, _, rfl, p, _, rfl, SqT.of (sN _ _ hp), fun hwh => ?_, fun hwh c1 hc1 => ?_⟩
      · refine ⟨_, rfl, (by show 2 ≤ sizeLine; decide), fun c2 hc2 => ?_⟩
        generalize hG2 : upd _ c2 _ = G2
        obtain ⟨s4, h_c2⟩ := upd_gen hG2 hc2
        have S := sN.trans s4
        refine ⟨.tuple r.d2, .tuple [.str "keep", .int kd], .tup (SqT.of (s4 _ _ (sN _ _ hp))) (r.dp1 hwh), .tup (SqT.of h_c2) (.cons (.str _) (.cons (.int _) .nil)), r.d2_shaped, kp_shaped _, _, rfl, ?_⟩
        refine ite2 (fun heq => ?_) (fun _ => ?_)
        · obtain ⟨y, rfl⟩ := r.d2_keep kd heq
          refine ⟨_, rfl, _, S _ _ hd, sl_lt (by rw [List.length_map]; omega), fun b o e => ?_, ns ++ [i], ?_, ?_, ?_⟩
          · rw [upd_ne (ne_of_none e hD)]
            exact S _ _ (s1 _ _ e)
          · rw [upd_same, List.map_append]
            rfl
          · rw [List.length_append, List.length_singleton]
            omega
          · intro n hn
            rcases List.mem_append.mp hn with hn | hn
            · exact hns n hn
            · rw [List.mem_singleton.mp hn]
              exact ⟨y, er⟩
        · exact ⟨s1.trans S, ns, S _ _ hd, by omega, hns⟩
      · generalize hG1 : upd _ c1 _ = G1
        obtain ⟨s5, h_c1⟩ := upd_gen hG1 hc1
        refine ⟨_, rfl, (by show 2 ≤ sizeLine; decide), fun c2 hc2 => ?_⟩
        generalize hG2 : upd _ c2 _ = G2
        obtain ⟨s4, h_c2⟩ := upd_gen hG2 hc2
        have S := sN.trans (s5.trans s4)
        refine ⟨.tuple r.d2, .tuple [.str "keep", .int kd], .tup (SqT.of (s4 _ _ h_c1)) r.dp2, .tup (SqT.of h_c2) (.cons (.str _) (.cons (.int _) .nil)), r.d2_shaped, kp_shaped _, _, rfl, ?_⟩
        refine ite2 (fun heq => ?_) (fun _ => ?_)
        · obtain ⟨y, rfl⟩ := r.d2_keep kd heq
          refine ⟨_, rfl, _, S _ _ hd, sl_lt (by rw [List.length_map]; omega), fun b o e => ?_, ns ++ [i], ?_, ?_, ?_⟩
          · rw [upd_ne (ne_of_none e hD)]
            exact S _ _ (s1 _ _ e)
          · rw [upd_same, List.map_append]
            rfl
          · rw [List.length_append, List.length_singleton]
            omega
          · intro n hn
            rcases List.mem_append.mp hn with hn | hn
            · exact hns n hn
            · rw [List.mem_singleton.mp hn]
              exact ⟨y, er⟩
        · exact ⟨s1.trans S, ns, S _ _ hd, by omega, hns⟩
    · obtain ⟨s1, ns, hd, ln, hns⟩ := hP
      rw [ll] at ln
      have w1 := hw.same s1
      have l1 := s1 _ _ hl
      have nD : D ≠ a := hw.ne hD
      refine ⟨fun σ G2 => σ = [some (.ref a), some (.ref l), some (.int kd), some (.int last), some (.ref D), none, none] ∧ SameBut a H G2 ∧ WellAt G2 a (c + 1), ?_, fun σ G2 hM => ?_⟩
      · refine ⟨_, rfl, (by show 0 ≤ sizeLine; decide), fun z hz => ?_⟩
        generalize hG1 : upd _ z _ = G1
        obtain ⟨s2, h_z⟩ := upd_gen hG1 hz
        refine ⟨.list ((ns.map fun n : Nat => (n : Int)).map PyData.int), .list (([] : List Int).map PyData.int), .lst (SqL.of (s2 _ _ hd)) (dp_nats ns), .lst (SqL.of h_z) .nil, PySem.W.ke_shaped_ints _, PySem.W.ke_shaped_ints _, _, rfl, ?_⟩
        cases ns with
        | nil => exact iteF ⟨rfl, .of (s1.trans s2), (w1.same s2).mono (by omega)⟩
        | cons n0 nt =>
          refine iteT ⟨_, rfl, a, c, 3, rfl, (w1.same s2), by omega, by decide, by decide +kernel, fun r3 H3 r30 r31 d3 e3 w3 => ⟨rfl, _, rfl, ite2 (fun _ => ?_) (fun _ => ⟨rfl, (SameBut.of (s1.trans s2)).trans d3, w3⟩)⟩⟩
          have hd3 := d3 _ _ nD (s2 _ _ hd)
          refine ⟨_, rfl, _, rfl, _, rfl, D, _, rfl, .inl (SqL.of hd3), a, c + 1, _, rfl, w3, by omega, by rw [List.length_map, List.length_cons]; omega, Nat.lt_of_le_of_lt (show _ ≤ 1000 by rw [List.length_map]; omega) (by decide +kernel), fun r4 H4 r40 r41 d4 e4 w4 => ?_⟩
          rw [List.length_map] at r41
          obtain ⟨j, rfl⟩ : ∃ j : Nat, r4 = (j : Int) := ⟨r4.toNat, by omega⟩
          have jl : j < (n0 :: nt).length := by omega
          have ej := List.getElem?_eq_getElem jl
          obtain ⟨y, ey⟩ := hns _ (List.getElem_mem jl)
          refine ⟨D, _, _, _, rfl, rfl, SqL.of (d4 _ _ nD hd3), atI_nat (by rw [List.getElem?_map, ej]; rfl), q [] _ 0 H4 (.inl rfl) ⟨y, by rw [List.append_nil]; exact ey⟩ (.one ((SameBut.of (s1.trans s2)).trans (d3.trans d4))) (w4.mono (by omega)) ?_⟩
          obtain ⟨gx, hgx⟩ := w3.lst
          obtain ⟨gx2, hgx2⟩ := (w1.same s2).lst
          rw [List.append_nil]
          exact ⟨rv, d4 _ _ nl (d3 _ _ nl (s2 _ _ l1)), ((ht.same (s1.trans s2)).but d3 hgx2).but d4 hgx⟩
      obtain ⟨rfl, sb, w2⟩ := hM
      obtain ⟨gx0, hgx0⟩ := hw.lst
      have hv2 := sb _ _ nl hl
      have ht2 := ht.but sb hgx0
      clear s1 ns hd ln hns w1 l1 nD hD
      refine ⟨_, rfl, .inl ⟨rfl, _, SqL.of hv2⟩, _, rfl, _, rfl, _, rfl, l, _, rfl, .inl (SqL.of hv2), _, _, rfl, rfl, _, rfl, _, rfl, l, _, rfl, .inl (SqL.of hv2), a, c + 1, _, rfl, w2, by omega, by omega, Nat.lt_of_le_of_lt (show _ ≤ 1000 by omega) (by decide +kernel), fun r3 H3 r30 r31 d3 e3 w3 => ?_⟩
      obtain ⟨x3, rfl⟩ : ∃ n : Nat, r3 = (n : Int) := ⟨r3.toNat, by omega⟩
      obtain ⟨gx2, hgx2⟩ := w2.lst
      have hv3 := d3 _ _ nl hv2
      have ht3 := ht2.but d3 hgx2
      refine ⟨(by show 3 ≤ sizeLine; decide), fun l4 hl4 => ?_⟩
      generalize hG4 : upd _ l4 _ = G4
      obtain ⟨s4, h_l4⟩ := upd_gen hG4 hl4
      have w4 := w3.same s4
      have n4 := w3.ne hl4
      obtain ⟨gx4, hgx4⟩ := w4.lst
      refine ⟨_, rfl, a, c + 1 + 1, 3, rfl, w4, by omega, by decide, by decide +kernel, fun r5 H5 r50 r51 d5 e5 w5 => ?_⟩
      have hv5 := d5 _ _ nl (s4 _ _ hv3)
      have ht5 := (ht3.same s4).but d5 hgx4
      obtain ⟨v, i3, o3⟩ := threeI (x := V.int last) (y := V.int ((rv.length : Int) - 1)) (z := V.int x3) r50 r51
      obtain ⟨x, rfl, xl⟩ : ∃ x : Nat, v = .int (x : Int) ∧ x < rows.length := by
        rcases o3 with rfl | rfl | rfl
        · exact ⟨_, rfl, la⟩
        · exact ⟨rv.length - 1, by congr 1; omega, by omega⟩
        · exact ⟨_, rfl, by omega⟩
      refine ⟨l4, _, r5, _, rfl, rfl, SqL.of (d5 _ _ n4 h_l4), i3, (by show 3 ≤ sizeLine; decide), fun p hp => ?_⟩
      generalize hG7 : upd _ p _ = G7
      obtain ⟨s7, h_p7⟩ := upd_gen hG7 hp
      have hv7 := s7 _ _ hv5
      refine ⟨l, _, _, rfl, rfl, hv7, sl_lt (by omega), ?_⟩
      have t8 := TL7.push (r := .keep kd x) hv7 (ht5.same s7) h_p7
      generalize hG8 : upd _ l _ = G8 at t8
      obtain ⟨s8, _⟩ := upd_but hG8
      obtain ⟨vs8, hv8, ht8⟩ := t8
      have lv8 := ht8.rlen
      rw [List.length_append, List.length_singleton] at lv8
      refine ⟨_, rfl, l, _, rfl, .inl (SqL.of hv8), _, _, rfl, rfl, ?_⟩
      have e : (vs8.length : Int) - 1 = ((rows.length : Nat) : Int) := by omega
      dsimp only
      rw [e]
      refine q [.keep kd x] rows.length x G8 (.inr ⟨rfl, xl⟩) ⟨x, ?_⟩ (((SameBut2.one (sb.trans (d3.trans ((SameBut.of s4).trans (d5.trans (.of s7))))))).trans (.two s8)) (((w5.same s7).but s8 nl.symm).mono (by omega)) ⟨vs8, hv8, ht8⟩
      rw [List.getElem?_append_right (Nat.le_refl _), Nat.sub_self]
      rfl
end
end E1

namespace E1
open PySem PySem.Spec PyProof.Rows L2
/-! ### how far the points of a net go -/
structure Bd (en : Int) (hp fp : List Int) (W : Int) : Prop where
  w0 : 0 ≤ W
  en : -W ≤ en ∧ en ≤ W
  hp : ∀ x ∈ hp, -W ≤ x ∧ x ≤ W
  fp : ∀ x ∈ fp, -W ≤ x ∧ x ≤ W
theorem getD_bd {l : List Int} {k : Nat} {W : Int} (h : ∀ x ∈ l, -W ≤ x ∧ x ≤ W) (w : 0 ≤ W) : -W ≤ l.getD k 0 ∧ l.getD k 0 ≤ W := by
  by_cases c : k < l.length
  · refine h _ ?_
    rw [List.getD_eq_getElem?_getD, List.getElem?_eq_getElem c]
    exact List.getElem_mem _
  · rw [List.getD_eq_getElem?_getD, List.getElem?_eq_none (by omega)]
    show -W ≤ 0 ∧ (0 : Int) ≤ W
    omega
structure RowsG (hc fc : Nat) (en : Int) (hp fp : List Int) (rows : List Row) (B : Int) : Prop where
  ok : ∀ i r, rows[i]? = some r → RowOk hc fc i r
  pb : ∀ p ∈ ptsOf en hp fp rows, -B ≤ p ∧ p ≤ B
theorem row_get {rows : List Row} {r r' : Row} {i : Nat} (h : (rows ++ [r'])[i]? = some r) : rows[i]? = some r ∨ (i = rows.length ∧ r = r') := by
  have := snoc_at (rows := rows) (ex := []) (r := r) (r' := r') (i := i) (by rw [List.nil_append]; exact h)
  rw [List.append_nil] at this
  exact this
section
variable {hc fc : Nat} {en : Int} {hp fp : List Int} {W R B B' M : Int}
theorem RowsG.mono {rows : List Row} (g : RowsG hc fc en hp fp rows B) (l : B ≤ B') : RowsG hc fc en hp fp rows B' :=
  ⟨g.ok, fun p h => by have := g.pb p h; omega⟩
theorem rowPt_bd {pts : List Int} (b : Bd en hp fp W) (wb : W ≤ B) (r0 : 0 ≤ R) (hpb : ∀ p ∈ pts, -B ≤ p ∧ p ≤ B) (r : Row) (by_ : r.by_ R) : -(B + R) ≤ rowPt en hp fp pts r ∧ rowPt en hp fp pts r ≤ B + R := by
  have w0 := b.w0
  have P : ∀ k, -B ≤ pts.getD k 0 ∧ pts.getD k 0 ≤ B := fun k => getD_bd hpb (by omega)
  have Hq : ∀ k, -W ≤ hp.getD k 0 ∧ hp.getD k 0 ≤ W := fun k => getD_bd b.hp w0
  have Fq : ∀ k, -W ≤ fp.getD k 0 ∧ fp.getD k 0 ≤ W := fun k => getD_bd b.fp w0
  cases r with
  | inn =>
    have := b.en
    show -(B + R) ≤ en ∧ en ≤ B + R
    omega
  | old k =>
    have := Hq k
    show -(B + R) ≤ hp.getD k 0 ∧ hp.getD k 0 ≤ B + R
    omega
  | times f m a =>
    have := P a
    have h : (m : Int) ≤ R := by_
    show -(B + R) ≤ pts.getD a 0 + m ∧ pts.getD a 0 + m ≤ B + R
    omega
  | plus x y =>
    have := P x
    have := P y
    show -(B + R) ≤ (if pts.getD y 0 > pts.getD x 0 then pts.getD y 0 else pts.getD x 0) ∧ (if pts.getD y 0 > pts.getD x 0 then pts.getD y 0 else pts.getD x 0) ≤ B + R
    split <;> omega
  | less x y =>
    have := P x
    have := P y
    show -(B + R) ≤ (if pts.getD y 0 > pts.getD x 0 then pts.getD y 0 else pts.getD x 0) ∧ (if pts.getD y 0 > pts.getD x 0 then pts.getD y 0 else pts.getD x 0) ≤ B + R
    split <;> omega
  | move m a =>
    have := P a
    obtain ⟨h1, h2⟩ : -R ≤ m ∧ m ≤ R := by_
    show -(B + R) ≤ pts.getD a 0 - m ∧ pts.getD a 0 - m ≤ B + R
    omega
  | keep f a =>
    have := Fq f
    show -(B + R) ≤ fp.getD f 0 ∧ fp.getD f 0 ≤ B + R
    omega
theorem RowsG.snoc {rows : List Row} {r : Row} (g : RowsG hc fc en hp fp rows B) (b : Bd en hp fp W) (wb : W ≤ B) (r0 : 0 ≤ R) (ok : RowOk hc fc rows.length r) (by_ : r.by_ R) : RowsG hc fc en hp fp (rows ++ [r]) (B + R) := by
  refine ⟨fun i x h => ?_, fun p h => ?_⟩
  · rcases row_get h with h | ⟨rfl, rfl⟩
    · exact g.ok i x h
    · exact ok
  · rw [ptsOf_snoc] at h
    rcases List.mem_append.mp h with h | h
    · have := g.pb p h
      omega
    · rw [List.mem_singleton.mp h]
      exact rowPt_bd b wb r0 g.pb r by_
theorem RowsG.keep {rows : List Row} {kd x : Nat} (g : RowsG hc fc en hp fp rows B) (b : Bd en hp fp W) (wb : W ≤ B) (hk : kd < fc) (hx : x < rows.length) : RowsG hc fc en hp fp (rows ++ [.keep kd x]) B := by
  have := g.snoc (r := .keep kd x) (R := 0) b wb (Int.le_refl _) ⟨hk, hx⟩ trivial
  exact this.mono (by omega)
theorem RowsG.begin {rows : List Row} (b : Bd en hp fp W) (h : ∀ r ∈ rows, BegOk hc r) : RowsG hc fc en hp fp rows W := by
  refine ⟨fun i r e => ?_, fun p hpm => ?_⟩
  · have := h r (List.mem_of_getElem? e)
    cases r with
    | inn => trivial
    | old k => exact this
    | _ => exact this.elim
  · obtain ⟨i, hi, rfl⟩ := List.getElem_of_mem hpm
    have hl : i < rows.length := by rw [ptsOf_len] at hi; exact hi
    have e := List.getElem?_eq_getElem hl
    have e2 := accL_at (g := rowPt en hp fp) e
    rw [← ptsOf_acc, List.getElem?_eq_getElem hi] at e2
    rw [Option.some.inj e2]
    have := h _ (List.getElem_mem hl)
    generalize rows[i] = r at *
    cases r with
    | inn => exact b.en
    | old k => exact getD_bd b.hp b.w0
    | _ => exact this.elim
theorem getD_pre {l t : List Int} {k : Nat} (h : k < l.length) : (l ++ t).getD k 0 = l.getD k 0 := by
  rw [List.getD_eq_getElem?_getD, List.getD_eq_getElem?_getD, List.getElem?_append_left h]
theorem mix_pb {rows : List Row} (m0 : 0 ≤ M) (b : Bd en hp fp W) (hb : ∀ p ∈ ptsOf en hp fp rows, -W ≤ p ∧ p ≤ W) : ∀ (n : Nat) (ex : List Row), ex.length = n → (∀ r ∈ ex, MixRow rows.length M r) → ∀ p ∈ ptsOf en hp fp (rows ++ ex), -(W + M) ≤ p ∧ p ≤ W + M := by
  have w0 := b.w0
  intro n
  induction n with
  | zero =>
    intro ex le _ p h
    rw [List.length_eq_zero_iff.mp le, List.append_nil] at h
    have := hb p h
    omega
  | succ n ih =>
    intro ex le hm p h
    obtain ⟨ex', r, rfl⟩ : ∃ ex' r, ex = ex' ++ [r] := by
      have hne : ex ≠ [] := fun z => by rw [z] at le; cases le
      exact ⟨_, _, (List.dropLast_concat_getLast hne).symm⟩
    have le' : ex'.length = n := by rw [List.length_append, List.length_singleton] at le; omega
    have ih' := ih ex' le' fun x hx => hm x (List.mem_append.mpr (.inl hx))
    rw [← List.append_assoc, ptsOf_snoc] at h
    rcases List.mem_append.mp h with h | h
    · exact ih' p h
    · rw [List.mem_singleton.mp h]
      have P : ∀ k, -(W + M) ≤ (ptsOf en hp fp (rows ++ ex')).getD k 0 ∧ (ptsOf en hp fp (rows ++ ex')).getD k 0 ≤ W + M := fun k => getD_bd ih' (by omega)
      have hr := hm r (List.mem_append.mpr (.inr (List.mem_singleton.mpr rfl)))
      cases r with
      | times f m a =>
        obtain ⟨h1, h2, _⟩ := hr
        show -(W + M) ≤ (ptsOf en hp fp (rows ++ ex')).getD a 0 + m ∧ (ptsOf en hp fp (rows ++ ex')).getD a 0 + m ≤ W + M
        obtain ⟨t, et⟩ := accL_pre (rowPt en hp fp) rows ex'
        rw [← ptsOf_acc, ← ptsOf_acc] at et
        rw [et, getD_pre (by rw [ptsOf_len]; exact h1)]
        have := getD_bd (k := a) hb w0
        omega
      | plus x y =>
        have := P x
        have := P y
        show -(W + M) ≤ (if (ptsOf en hp fp (rows ++ ex')).getD y 0 > (ptsOf en hp fp (rows ++ ex')).getD x 0 then (ptsOf en hp fp (rows ++ ex')).getD y 0 else (ptsOf en hp fp (rows ++ ex')).getD x 0) ∧ (if (ptsOf en hp fp (rows ++ ex')).getD y 0 > (ptsOf en hp fp (rows ++ ex')).getD x 0 then (ptsOf en hp fp (rows ++ ex')).getD y 0 else (ptsOf en hp fp (rows ++ ex')).getD x 0) ≤ W + M
        split <;> omega
      | less x y =>
        have := P x
        have := P y
        show -(W + M) ≤ (if (ptsOf en hp fp (rows ++ ex')).getD y 0 > (ptsOf en hp fp (rows ++ ex')).getD x 0 then (ptsOf en hp fp (rows ++ ex')).getD y 0 else (ptsOf en hp fp (rows ++ ex')).getD x 0) ∧ (if (ptsOf en hp fp (rows ++ ex')).getD y 0 > (ptsOf en hp fp (rows ++ ex')).getD x 0 then (ptsOf en hp fp (rows ++ ex')).getD y 0 else (ptsOf en hp fp (rows ++ ex')).getD x 0) ≤ W + M
        split <;> omega
      | inn => exact hr.elim
      | old k => exact hr.elim
      | move m a => exact hr.elim
      | keep f a => exact hr.elim
theorem RowsG.mix {rows ex : List Row} (m0 : 0 ≤ M) (b : Bd en hp fp W) (g : RowsG hc fc en hp fp rows W) (hm : ∀ r ∈ ex, MixRow rows.length M r) (ho : ∀ i r, (rows ++ ex)[i]? = some r → rows.length ≤ i → ∀ hc fc, RowOk hc fc i r) : RowsG hc fc en hp fp (rows ++ ex) (W + M) := by
  refine ⟨fun i r e => ?_, mix_pb m0 b g.pb _ ex rfl hm⟩
  by_cases c : i < rows.length
  · rw [List.getElem?_append_left c] at e
    exact g.ok i r e
  · exact ho i r e (by omega) _ _
end
/-! ### the heap of a law's net -/
theorem TsAt.but2 {H H' : Hp} {a l : Addr} {xs ys vs : List V} {xss : List (List V)} (h : TsAt H vs xss) (s : SameBut2 a l H H') (ha : H a = some (.lst xs)) (hl : H l = some (.lst ys)) : TsAt H' vs xss :=
  h.mono fun _ _ e => s _ _ (ne_of e ha (fun z => nomatch z)) (ne_of e hl (fun z => nomatch z)) e
theorem TL7.but2 {H H' : Hp} {a l b : Addr} {xs ys : List V} {xss : List (List V)} (h : TL7 H b xss) (s : SameBut2 a l H H') (ha : H a = some (.lst xs)) (hl : H l = some (.lst ys)) (n1 : b ≠ a) (n2 : b ≠ l) : TL7 H' b xss := by
  obtain ⟨vs, e, t⟩ := h
  exact ⟨vs, s _ _ n1 n2 e, t.but2 s ha hl⟩
def nI (n : Nat) : V := .int (n : Int)
structure NB (H G : Hp) (a kl fl ml : Addr) (ks : List Nat) (fs : List FormP) (rows : List Row) (c : Int) : Prop where
  sb : SameBut a H G
  w : WellAt G a c
  k : G kl = some (.lst (ks.map nI))
  f : TL7 G fl (fs.map FormP.vs)
  m : TL7 G ml (rows.map Row.vs)
  n1 : kl ≠ a
  n2 : fl ≠ a
  n3 : ml ≠ a
  n4 : kl ≠ ml
  n5 : fl ≠ ml
  f0 : H ml = none
section
variable {H G G' : Hp} {a kl fl ml : Addr} {ks : List Nat} {fs : List FormP} {rows rows' : List Row} {c c' : Int}
theorem NB.one (b : NB H G a kl fl ml ks fs rows c) (s : SameBut a G G') (w : WellAt G' a c') : NB H G' a kl fl ml ks fs rows c' := by
  obtain ⟨xs, hx⟩ := b.w.lst
  exact ⟨b.sb.trans s, w, s _ _ b.n1 b.k, b.f.but s hx b.n2, b.m.but s hx b.n3, b.n1, b.n2, b.n3, b.n4, b.n5, b.f0⟩
theorem NB.new (b : NB H G a kl fl ml ks fs rows c) (s : Same G G') : NB H G' a kl fl ml ks fs rows c := b.one (.of s) (b.w.same s)
theorem NB.mono (b : NB H G a kl fl ml ks fs rows c) (l : c ≤ c') : NB H G a kl fl ml ks fs rows c' := ⟨b.sb, b.w.mono l, b.k, b.f, b.m, b.n1, b.n2, b.n3, b.n4, b.n5, b.f0⟩
theorem NB.two (b : NB H G a kl fl ml ks fs rows c) (s : SameBut2 a ml G G') (w : WellAt G' a c') (m : TL7 G' ml (rows'.map Row.vs)) : NB H G' a kl fl ml ks fs rows' c' := by
  obtain ⟨xs, hx⟩ := b.w.lst
  obtain ⟨ys, hy, _⟩ := b.m
  refine ⟨fun x o n e => s x o n (fun z => ?_) (b.sb x o n e), w, s _ _ b.n1 b.n4 b.k, b.f.but2 s hx hy b.n2 b.n5, m, b.n1, b.n2, b.n3, b.n4, b.n5, b.f0⟩
  have := b.f0
  rw [← z, e] at this
  cases this
theorem NB.but {x : Addr} {ys : List V} (b : NB H G a kl fl ml ks fs rows c) (s : SameBut x G G') (hx : G x = some (.lst ys)) (h0 : H x = none) (m1 : a ≠ x) (m2 : kl ≠ x) (m3 : fl ≠ x) (m4 : ml ≠ x) : NB H G' a kl fl ml ks fs rows c := by
  refine ⟨fun y o n e => s y o (fun z => ?_) (b.sb y o n e), b.w.but s m1, s _ _ m2 b.k, b.f.but s hx m3, b.m.but s hx m4, b.n1, b.n2, b.n3, b.n4, b.n5, b.f0⟩
  rw [z, h0] at e
  cases e
end
/-- the parts of a law's net -/
def PartsAt (H : Hp) (p : Addr) (n : NetP) : Prop := ∃ fa ra ha, H p = some (.tup [.ref fa, .int n.en, .ref ra, .ref ha, .int n.out]) ∧ TL7 H fa (n.fs.map FormP.vs) ∧ TL7 H ra (n.rows.map Row.vs) ∧ TL7 H ha (n.holds.map Hold.vs)
theorem PartsAt.same {H H' : Hp} {p : Addr} {n : NetP} (h : PartsAt H p n) (s : Same H H') : PartsAt H' p n := by
  obtain ⟨fa, ra, ha, e, x, y, z⟩ := h
  exact ⟨fa, ra, ha, s _ _ e, x.same s, y.same s, z.same s⟩
theorem PartsAt.but {H H' : Hp} {p a : Addr} {n : NetP} {ys : List V} (h : PartsAt H p n) (s : SameBut a H H') (ha : H a = some (.lst ys)) (n1 : ∀ fa ra hb, H p = some (.tup [.ref fa, .int n.en, .ref ra, .ref hb, .int n.out]) → fa ≠ a ∧ ra ≠ a ∧ hb ≠ a) : PartsAt H' p n := by
  obtain ⟨fa, ra, hb, e, x, y, z⟩ := h
  obtain ⟨m1, m2, m3⟩ := n1 fa ra hb e
  exact ⟨fa, ra, hb, s _ _ (ne_of e ha (fun z => nomatch z)) e, x.but s ha m1, y.but s ha m2, z.but s ha m3⟩
def HoldOk (fs : List FormP) (rows : List Row) (h : Hold) : Prop := h.k < fs.length ∧ inR (frm fs h.k).w h.s = true ∧ h.s.natAbs < 2 ^ 70 ∧ ∃ x, rows[h.l]? = some (.keep h.k x)
theorem HoldOk.more {fs : List FormP} {rows t : List Row} {h : Hold} (k : HoldOk fs rows h) : HoldOk fs (rows ++ t) h := by
  obtain ⟨a, b, c, x, e⟩ := k
  refine ⟨a, b, c, x, ?_⟩
  rw [List.getElem?_append_left (List.getElem?_eq_some_iff.mp e).1]
  exact e
def spLNet : Sp := fun vs H Q _ => ∃ a : Addr, vs = [.ref a] ∧ WellAt H a 3 ∧ ∀ (n : NetP) (p : Addr) (H' : Hp), NetOk n → (∀ h ∈ n.holds, h.s.natAbs < 2 ^ 70) → Mild n → n.rows.length ≤ 26 → WellAt H' a 300 → SameBut a H H' → H p = none → (∀ G, SameBut a H' G → PartsAt G p n) → Q (.ref p) H'
theorem sixR {r : Int} (h0 : 0 ≤ r) (h1 : r < 6) : ∃ R : Int, atI [V.int 5, V.int 5, V.int 20, V.int 20, V.int 20, V.int 60] r = some (.int R) ∧ 5 ≤ R ∧ R ≤ 60 ∧ (r ≠ 5 → R ≤ 20) ∧ (r < 2 → R ≤ 5) := by
  rcases (by omega : r = 0 ∨ r = 1 ∨ r = 2 ∨ r = 3 ∨ r = 4 ∨ r = 5) with rfl | rfl | rfl | rfl | rfl | rfl
  · exact ⟨5, rfl, by omega, by omega, fun _ => by omega, fun _ => by omega⟩
  · exact ⟨5, rfl, by omega, by omega, fun _ => by omega, fun _ => by omega⟩
  · exact ⟨20, rfl, by omega, by omega, fun _ => by omega, fun z => absurd z (by decide)⟩
  · exact ⟨20, rfl, by omega, by omega, fun _ => by omega, fun z => absurd z (by decide)⟩
  · exact ⟨20, rfl, by omega, by omega, fun _ => by omega, fun z => absurd z (by decide)⟩
  · exact ⟨60, rfl, by omega, by omega, (fun z => absurd rfl z), fun z => absurd z (by decide)⟩
/-- so many rows of chance -/
theorem pickN {x y so : Int} (A B : Int) (x0 : 0 ≤ x) (x1 : x < A) (y0 : 0 ≤ y) (y1 : y < B) : ∃ n : Nat, atI [V.int x, V.int y] (if decide (V.int so = V.int 5) = true then 1 else 0) = some (.int (n : Int)) ∧ (so = 5 → (n : Int) < B) ∧ (so ≠ 5 → (n : Int) < A) := by
  by_cases h : so = 5
  · refine ⟨y.toNat, ?_, fun _ => by omega, fun z => absurd h z⟩
    rw [h, decide_eq_true rfl, show ((y.toNat : Nat) : Int) = y by omega]
    exact a1
  · refine ⟨x.toNat, ?_, fun z => absurd z h, fun _ => by omega⟩
    rw [decide_eq_false (fun z => h (V.int.inj z)), show ((x.toNat : Nat) : Int) = x by omega]
    exact a0

theorem beg_small {hc : Nat} {rows : List Row} (h : ∀ r ∈ rows, BegOk hc r) : ∀ r ∈ rows, r.small := fun r hr => by
  have := h r hr
  cases r <;> first | trivial | exact this.elim
theorem mix_small {n0 : Nat} {M : Int} {ex : List Row} (h : ∀ r ∈ ex, MixRow n0 M r) : ∀ r ∈ ex, r.small := fun r hr => by
  have := h r hr
  cases r <;> first | trivial | exact this.elim | exact this.2.2
theorem app_small {a b : List Row} (ha : ∀ r ∈ a, r.small) (hb : ∀ r ∈ b, r.small) : ∀ r ∈ a ++ b, r.small := fun r hr => by
  rcases List.mem_append.mp hr with h | h
  · exact ha r h
  · exact hb r h
theorem one_small {r : Row} (h : r.small) : ∀ x ∈ [r], x.small := fun x hx => by
  rw [List.mem_singleton.mp hx]
  exact h
end E1

namespace E1
open PySem PySem.Spec PyProof.Rows L2
section
variable {P : Program} {w : World} {K : PySem.W.Frag} {mg : Str → Option Value} {base : Heap}
theorem sc__law_net : FnScope ["_law_well_here", "_law_sort", "_law_count", "_law_first", "_law_k", "_law_kinds", "_law_reach", "_law_shapes", "_law_made_here", "_law_last", "_law_links", "_law_kind", "_law_start"] ["_law_well_here"] (defScope s__law_net) := ⟨rfl, rfl, rfl, by decide +kernel, rfl, by decide +kernel, by decide +kernel⟩
theorem ok__law_net {f : Addr} {fd : FuncData} (F : Fun K "_law_net" "_law_net" s__law_net f fd) (z : Zs mg) (c__law_draw : Cal P w K mg base 1 "_law_draw" ["_law_well_here", "_law_many"] spDraw) (c__law_form : Cal P w K mg base 2 "_law_form" ["_law_well_here", "_law_free", "_law_reach"] spLForm) (c__law_word : Cal P w K mg base 2 "_law_word" ["_law_well_here", "_law_form_here"] spLWord) (c__law_row : Cal P w K mg base 2 "_law_row" ["_law_well_here", "_law_count", "_law_at", "_law_free", "_law_reach", "_law_held"] spLRow) (c__law_begin : Cal P w K mg base 2 "_law_begin" ["_law_well_here", "_law_held"] spLBegin) (c__law_mixed : Cal P w K mg base 2 "_law_mixed" ["_law_well_here", "_law_made_here", "_law_reach"] spLMixed) (c__law_link : Cal P w K mg base 2 "_law_link" ["_law_well_here", "_law_made_here", "_law_kind", "_law_last"] (spLLink K)) : FnOk P w K mg base CX0 3 f fd ["_law_well_here"] spLNet := by
  refine F.ok sc__law_net (fun vs H Q E h => ?_) (fun cdv A outer s H vs Q E hr h => ?_)
  · obtain ⟨a, rfl, _⟩ := h
    rfl
  · obtain ⟨a, rfl, hw, q⟩ := h
    refine ⟨_, (pss_cons (ps_set (i := 1) sc__law_net.nd rfl (.inr rfl) (pe_cal c__law_draw hr (pa_cons (pv 0) (pa_cons pe_int pa_nil))))
      (pss_cons (ps_set (i := 2) sc__law_net.nd rfl (.inr rfl) (pe_op op_add pe_int (pe_cal c__law_draw hr (pa_cons (pv 0) (pa_cons pe_int pa_nil)))))
      (pss_cons (ps_set (i := 3) sc__law_net.nd rfl (.inl rfl) (pe_cal c__law_draw hr (pa_cons (pv 0) (pa_cons (pv 2) pa_nil))))
      (pss_cons (ps_setLc (i := 5) (own := [("_law_k", 4)]) (g := gName 4) (tt := tYes) (te := (tCall spDraw [] E0 (tCons (tVar 0) (tCons (tVar 2) tNil)))) (by rfl) sc__law_net.nd rfl rfl (sw_true rfl rfl rfl (by decide +kernel)) (pi_range1 (by rfl) z.range (pa_cons (pe_cal c__law_draw hr (pa_cons (pv 0) (pa_cons pe_int pa_nil))) pa_nil)) (blkOk_by (own := [("_law_k", 4)]) (N := ["_law_well_here", "_law_sort", "_law_count", "_law_first", "_law_k", "_law_kinds", "_law_reach", "_law_shapes", "_law_made_here", "_law_last", "_law_links", "_law_kind", "_law_start"]) (sc := defScope s__law_net) (by decide +kernel)) (fun _ _ _ _ _ => by exact (pg_name (i := 4) sc__law_net.nd rfl (.inl rfl))) (fun _ _ _ _ _ => by exact pts_nil) (fun _ _ _ _ _ => by exact (pe_cal c__law_draw hr (pa_cons (pv 0) (pa_cons (pv 2) pa_nil)))))
      (pss_cons (ps_set (i := 6) sc__law_net.nd rfl (.inr rfl) (pe_ix ix_list (pe_lst (pa_cons pe_int (pa_cons pe_int (pa_cons pe_int (pa_cons pe_int (pa_cons pe_int (pa_cons pe_int pa_nil))))))) (pv 1) (fun _ _ => rfl)))
      (pss_cons (ps_setLc (i := 7) (own := [("_law_k", 4)]) (g := gName 4) (tt := tYes) (te := (tCall spLForm [] E0 (tCons (tVar 0) (tCons (tOp (rI0 fun i j => V.bl (decide (i < j))) (tVar 1) (tC (.int 2))) (tCons (tVar 6) tNil))))) (by rfl) sc__law_net.nd rfl rfl (sw_true rfl rfl rfl (by decide +kernel)) (pi_range1 (by rfl) z.range (pa_cons (pv 2) pa_nil)) (blkOk_by (own := [("_law_k", 4)]) (N := ["_law_well_here", "_law_sort", "_law_count", "_law_first", "_law_k", "_law_kinds", "_law_reach", "_law_shapes", "_law_made_here", "_law_last", "_law_links", "_law_kind", "_law_start"]) (sc := defScope s__law_net) (by decide +kernel)) (fun _ _ _ _ _ => by exact (pg_name (i := 4) sc__law_net.nd rfl (.inl rfl))) (fun _ _ _ _ _ => by exact pts_nil) (fun _ _ _ _ _ => by exact (pe_cal c__law_form hr (pa_cons (pv 0) (pa_cons (pe_cmpR op_lt (pv 1) pe_int (nomark _)) (pa_cons (pv 6) pa_nil))))))
      (C8.pss_cut (ps_if (PW.pt (pw_and (pt_cmpR op_gt (pv 2) pe_int (nomark _)) (pw_and1 (pt_cmpR op_eq (pe_cal c__law_draw hr (pa_cons (pv 0) (pa_cons pe_int pa_nil))) pe_int (nomark _))))) (pss_one (ps_asg (pe_ix ix_list (pv 7) pe_int (fun _ _ => rfl)) (pg_sub (pv 7) pe_int set_list))) pss_nil)
      (pss_cons (ps_set (i := 8) sc__law_net.nd rfl (.inl rfl) (pe_cal c__law_begin hr (pa_cons (pv 0) (pa_cons (pe_callB call_len_seq (by rfl) z.len PySem.boot_len (pa_cons (pv 5) pa_nil)) pa_nil))))
      (pss_cons (ps_set (i := 9) sc__law_net.nd rfl (.inl rfl) (pe_op op_sub (pe_callB call_len_seq (by rfl) z.len PySem.boot_len (pa_cons (pv 8) pa_nil)) pe_int))
      (C8.pss_cut (ps_if (pt_cmpR op_gt (pe_cal c__law_draw hr (pa_cons (pv 0) (pa_cons pe_int pa_nil))) pe_int (nomark _)) (pss_one (ps_set (i := 9) sc__law_net.nd rfl (.inl rfl) (pe_cal c__law_mixed hr (pa_cons (pv 0) (pa_cons (pv 8) (pa_cons (pe_callB (call_min2 rfl) (by rfl) z.min (by decide +kernel) (pa_cons (pv 6) (pa_cons pe_int pa_nil))) pa_nil)))))) pss_nil)
      (pss_cons (ps_for PassesOwn.never rfl (pi_range1 (by rfl) z.range (pa_cons (pe_ix ix_list (pe_lst (pa_cons (pe_cal c__law_draw hr (pa_cons (pv 0) (pa_cons pe_int pa_nil))) (pa_cons (pe_cal c__law_draw hr (pa_cons (pv 0) (pa_cons pe_int pa_nil))) pa_nil))) (pe_callTy call_int1 (by rfl) z.int (by decide +kernel) (pa_cons (pe_cmpR op_eq (pv 1) pe_int (nomark _)) pa_nil)) (fun _ _ => rfl)) pa_nil)) (pg_name (i := 4) sc__law_net.nd rfl (.inl rfl)) (pss_one (ps_expr (pe_bm PySem.F.plainAttrs_list PySem.F.slot_list_append PySem.F.type_list_append mt_append (pv 8) (pa_cons (pe_cal c__law_row hr (pa_cons (pv 0) (pa_cons (pv 2) (pa_cons (pe_callB call_len_seq (by rfl) z.len PySem.boot_len (pa_cons (pv 8) pa_nil)) (pa_cons (pe_cmpR op_lt (pv 1) pe_int (nomark _)) (pa_cons (pv 6) (pa_cons (pe_callB call_len_seq (by rfl) z.len PySem.boot_len (pa_cons (pv 5) pa_nil)) pa_nil))))))) pa_nil)))))
      (pss_cons (ps_set (i := 10) sc__law_net.nd rfl (.inl rfl) (pe_lst pa_nil))
      (pss_cons (ps_for PassesOwn.never rfl (pi_list (pv 5)) (pg_name (i := 11) sc__law_net.nd rfl (.inl rfl)) (pss_cons (ps_set (i := 12) sc__law_net.nd rfl (.inl rfl) (pe_cal c__law_word hr (pa_cons (pv 0) (pa_cons (pe_ix ix_list (pv 7) (pv 11) (fun _ _ => rfl)) pa_nil))))
      (pss_one (ps_expr (pe_bm PySem.F.plainAttrs_list PySem.F.slot_list_append PySem.F.type_list_append mt_append (pv 10) (pa_cons (pe_tup (pa_cons (pv 11) (pa_cons (pv 12) (pa_cons (pe_cal c__law_link hr (pa_cons (pv 0) (pa_cons (pv 8) (pa_cons (pv 11) (pa_cons (pv 9) pa_nil))))) pa_nil)))) pa_nil))))))
      (pss_cons (ps_for PassesOwn.never rfl (pi_range1 (by rfl) z.range (pa_cons (pe_ix ix_list (pe_lst (pa_cons (pe_cal c__law_draw hr (pa_cons (pv 0) (pa_cons pe_int pa_nil))) (pa_cons (pe_cal c__law_draw hr (pa_cons (pv 0) (pa_cons pe_int pa_nil))) pa_nil))) (pe_callTy call_int1 (by rfl) z.int (by decide +kernel) (pa_cons (pe_cmpR op_eq (pv 1) pe_int (nomark _)) pa_nil)) (fun _ _ => rfl)) pa_nil)) (pg_name (i := 4) sc__law_net.nd rfl (.inl rfl)) (pss_one (ps_expr (pe_bm PySem.F.plainAttrs_list PySem.F.slot_list_append PySem.F.type_list_append mt_append (pv 8) (pa_cons (pe_cal c__law_row hr (pa_cons (pv 0) (pa_cons (pv 2) (pa_cons (pe_callB call_len_seq (by rfl) z.len PySem.boot_len (pa_cons (pv 8) pa_nil)) (pa_cons (pe_cmpR op_lt (pv 1) pe_int (nomark _)) (pa_cons (pv 6) (pa_cons (pe_callB call_len_seq (by rfl) z.len PySem.boot_len (pa_cons (pv 5) pa_nil)) pa_nil))))))) pa_nil)))))
      (pss_one (ps_ret (pe_tup (pa_cons (pv 7) (pa_cons (pv 3) (pa_cons (pv 8) (pa_cons (pv 10) (pa_cons (pe_ix ix_list (pe_lst (pa_cons (pv 9) (pa_cons (pe_op op_sub (pe_callB call_len_seq (by rfl) z.len PySem.boot_len (pa_cons (pv 8) pa_nil)) pe_int) (pa_cons (pe_cal c__law_draw hr (pa_cons (pv 0) (pa_cons (pe_callB call_len_seq (by rfl) z.len PySem.boot_len (pa_cons (pv 8) pa_nil)) pa_nil))) pa_nil)))) (pe_cal c__law_draw hr (pa_cons (pv 0) (pa_cons pe_int pa_nil))) (fun _ _ => rfl)) pa_nil)))))))))))))))))))))), ?_⟩
    obtain ⟨wxs, hwx⟩ := hw.lst
    refine ⟨_, rfl, a, 3, 6, rfl, hw, by omega, by decide, by decide +kernel, fun r1 H1 r10 r11 d1 e1 w1 => ⟨_, rfl, a, 3 + 1, 3, rfl, w1, by omega, by decide, by decide +kernel, fun r2 H2 r20 r21 d2 e2 w2 => ⟨_, _, rfl, rfl, _, rfl, _, rfl, a, 3 + 1 + 1, 1 + r2, rfl, w2, by omega, by omega, Nat.lt_of_le_of_lt (show _ ≤ 1000 by omega) (by decide +kernel), fun r3 H3 r30 r31 d3 e3 w3 => ⟨_, rfl, a, 3 + 1 + 1 + 1, 4, rfl, w3, by omega, by decide, by decide +kernel, fun r4 H4 r40 r41 d4 e4 w4 => ⟨r4.toNat, by rw [Int.toNat_of_nonneg r40], by omega, by omega, fun kl hkl => ?_⟩⟩⟩⟩⟩
    have D4 : SameBut a H H4 := d1.trans (d2.trans (d3.trans d4))
    have nkl : kl ≠ a := w4.ne hkl
    have fkl : H kl = none := same_free D4 hwx hkl nkl
    obtain ⟨kn, ekn⟩ : ∃ n, r4.toNat = n := ⟨_, rfl⟩
    rw [ekn]
    have kn4 : kn ≤ 3 := by omega
    refine lc_it walk_range (fun i G => SameBut a H G ∧ WellAt G a (10 + i) ∧ ∃ ks : List Nat, G kl = some (.lst (ks.map nI)) ∧ ks.length = i ∧ ∀ k ∈ ks, (k : Int) < 1 + r2) ⟨D4.trans (.of (same_new hkl)), (w4.same (same_new hkl)).mono (by omega), [], upd_same, rfl, fun n x => nomatch x⟩ (fun _ _ _ _ => trivial) (fun i x G G' hi hP hY => ?_) (fun G hP => ?_)
    · obtain ⟨sb, wl, ks, hk, lk, hks⟩ := hP
      obtain ⟨rfl, rfl⟩ := hY
      refine ⟨rfl, _, rfl, _, rfl, a, 10 + i, 1 + r2, rfl, wl, by omega, by omega, Nat.lt_of_le_of_lt (show _ ≤ 1000 by omega) (by decide +kernel), fun r5 H5 r50 r51 d5 e5 w5 => ⟨_, d5 _ _ nkl hk, sl_lt (by rw [List.length_map]; omega), fun b o n e => ?_, (w5.but SameBut.upd nkl.symm).mono (by omega), ks ++ [r5.toNat], ?_, by rw [List.length_append, lk]; rfl, fun k hk2 => ?_⟩⟩
      · rw [upd_ne (ne_of_none e fkl)]
        exact d5 _ _ n (sb _ _ n e)
      · rw [upd_same, List.map_append]
        show some (HO.lst (ks.map nI ++ [V.int r5])) = some (.lst (ks.map nI ++ [V.int ((r5.toNat : Nat) : Int)]))
        rw [Int.toNat_of_nonneg r50]
      · rcases List.mem_append.mp hk2 with hk2 | hk2
        · exact hks k hk2
        · rw [List.mem_singleton.mp hk2]
          omega
    obtain ⟨sb, wl, ks, hk, lk, hks⟩ := hP
    clear D4 d1 d2 d3 d4 e1 e2 e3 e4 w1 w2 w3 w4
    refine ⟨(by show 6 ≤ sizeLine; decide), fun l6 hl6 => ?_⟩
    generalize hG6 : upd _ l6 _ = G6
    obtain ⟨s6, h_l6⟩ := upd_gen hG6 hl6
    obtain ⟨R, iR, R0, R1, R2, R3⟩ := sixR r10 r11
    refine ⟨_, rfl, l6, _, r1, _, rfl, rfl, SqL.of h_l6, iR, ?_⟩
    replace sb := sb.trans (.of s6)
    replace wl := wl.same s6
    replace hk := s6 _ _ hk
    refine ⟨_, rfl, (1 + r2).toNat, by rw [Int.toNat_of_nonneg (by omega)], by omega, by omega, fun fl hfl => ?_⟩
    have nfl : fl ≠ a := wl.ne hfl
    have ffl : H fl = none := same_free sb hwx hfl nfl
    have nkf : kl ≠ fl := ne_of_none hk hfl
    refine lc_it walk_range (fun i G => SameBut a H G ∧ WellAt G a (20 + 7 * i) ∧ G kl = some (.lst (ks.map nI)) ∧ ∃ (fv : List V) (fs : List FormP), G fl = some (.lst fv) ∧ TsAt G fv (fs.map FormP.vs) ∧ fs.length = i ∧ ∀ f ∈ fs, f.Ok ∧ (-R - 2 ≤ f.pt ∧ f.pt ≤ R + 2) ∧ (¬ r1 < 2 → f.w ≠ none)) ⟨sb.trans (.of (same_new hfl)), (wl.same (same_new hfl)).mono (by omega), same_new hfl _ _ hk, [], [], upd_same, .nil, rfl, fun n x => nomatch x⟩ (fun _ _ _ _ => trivial) (fun i x G2 G' hi hP hY => ?_) (fun G2 hP => ?_)
    · obtain ⟨sb, wl, hk, fv, fs, hf, tf, lf, hfo⟩ := hP
      obtain ⟨rfl, rfl⟩ := hY
      obtain ⟨gx, hgx⟩ := wl.lst
      have ltf := tf.len
      rw [List.length_map] at ltf
      refine ⟨rfl, _, rfl, _, rfl, _, _, rfl, rfl, _, rfl, a, _, R, 20 + 7 * i, rfl, by omega, by omega, wl, by omega, by omega, fun f p G3 fok fwn p0 p1 s2 w2 np hpn hp2 => ?_⟩
      have hf2 := s2 _ _ nfl hf
      refine ⟨_, hf2, sl_lt (by omega), fun b o n e => ?_, (w2.but SameBut.upd nfl.symm).mono (by omega), by rw [upd_ne nkf]; exact s2 _ _ nkl hk, fv ++ [.ref p], fs ++ [f], upd_same, ?_, by rw [List.length_append, lf]; rfl, fun x hx => ?_⟩
      · rw [upd_ne (ne_of_none e ffl)]
        exact s2 _ _ n (sb _ _ n e)
      · rw [List.map_append]
        exact TsAt.push hf2 (tf.but s2 hgx) hp2
      · rcases List.mem_append.mp hx with hx | hx
        · exact hfo x hx
        · rw [List.mem_singleton.mp hx]
          exact ⟨fok, ⟨p0, p1⟩, fun z => fwn (decide_eq_false z)⟩
    obtain ⟨sb2, wl2, hk2, fv, fs, hf, tf, lf, hfo⟩ := hP
    clear sb wl hk
    obtain ⟨fc, efc⟩ : ∃ n : Nat, 1 + r2 = (n : Int) := ⟨(1 + r2).toNat, by omega⟩
    obtain ⟨en, rfl⟩ : ∃ n : Nat, r3 = (n : Int) := ⟨r3.toNat, by omega⟩
    obtain ⟨so, eso⟩ : ∃ s : Int, s = r1 := ⟨_, rfl⟩
    have lf2 : fs.length = fc := by omega
    rw [← eso] at hfo
    have fc3 : fc ≤ 3 := by omega
    have fc1 : 1 ≤ fc := by omega
    have enl : en < fc := by omega
    replace hks : ∀ k ∈ ks, k < fc := fun k hx => by have := hks k hx; omega
    refine ⟨fun σ G => ∃ fs : List FormP, σ = [some (.ref a), some (.int so), some (.int (fc : Int)), some (.int (en : Int)), none, some (.ref kl), some (.int R), some (.ref fl), none, none, none, none, none] ∧ SameBut a H G ∧ WellAt G a 60 ∧ G kl = some (.lst (ks.map nI)) ∧ TL7 G fl (fs.map FormP.vs) ∧ fs.length = fc ∧ (∀ f ∈ fs, f.Ok ∧ (-R - 2 ≤ f.pt ∧ f.pt ≤ R + 2) ∧ (¬ so < 2 → f.w ≠ none)), ?_, fun σ G hM => ?_⟩
    · refine ⟨_, rfl, _, _, rfl, rfl, _, rfl, ite2 (fun gt => ?_) (fun _ => ⟨fs, by rw [← efc, eso]; rfl, sb2, wl2.mono (by omega), hk2, ⟨fv, hf, tf⟩, lf2, hfo⟩)⟩
      have gt2 : 1 + r2 > 1 := toB gt
      obtain ⟨gx, hgx⟩ := wl2.lst
      refine ⟨_, rfl, a, 20 + 7 * ((1 + r2).toNat : Nat), 4, rfl, wl2, by omega, by decide, by decide +kernel, fun r7 H7 r70 r71 d7 e7 w7 => ⟨rfl, _, rfl, ite2 (fun _ => ?_) (fun _ => ⟨fs, by rw [← efc, eso]; rfl, sb2.trans d7, w7.mono (by omega), d7 _ _ nkl hk2, ⟨fv, d7 _ _ nfl hf, tf.but d7 hgx⟩, lf2, hfo⟩)⟩⟩
      match fs, tf, lf2, hfo with
      | f0 :: f1 :: ft, .cons (p := p0) x0 (.cons (p := p1) (vs := fvt) x1 xt), lf2, hfo =>
        have hf7 := d7 _ _ nfl hf
        refine ⟨_, rfl, fl, _, 0, .ref p0, rfl, rfl, SqL.of hf7, a0, _, rfl, fl, _, 1, 1, rfl, rfl, hf7, ?_, f0 :: f0 :: ft, by rw [← efc, eso]; rfl, ?_, ?_, ?_, ⟨_, upd_same, ?_⟩, lf2, fun x hx => ?_⟩
        · show ixN (fvt.length + 1 + 1) 1 = some 1
          unfold ixN
          rw [if_pos (by decide), if_pos (by omega)]
          rfl
        · intro b o n e
          rw [upd_ne (ne_of_none e ffl)]
          exact d7 _ _ n (sb2 _ _ n e)
        · exact (w7.but SameBut.upd nfl.symm).mono (by omega)
        · rw [upd_ne nkf]
          exact d7 _ _ nkl hk2
        · have x0' := d7 _ _ (ne_of x0 hgx (fun z => nomatch z)) x0
          have TT := TsAt.cons x0' (.cons x0' (xt.but d7 hgx))
          exact TT.but SameBut.upd hf7
        · rcases List.mem_cons.mp hx with rfl | hx
          · exact hfo _ (List.mem_cons_self ..)
          · rcases List.mem_cons.mp hx with rfl | hx
            · exact hfo _ (List.mem_cons_self ..)
            · exact hfo x (List.mem_cons_of_mem _ (List.mem_cons_of_mem _ hx))
      | [f0], _, lf2, _ => exact absurd lf2 (by show ¬ (1 = fc); omega)
      | [], _, lf2, _ => exact absurd lf2 (by show ¬ (0 = fc); omega)
    have so0 : 0 ≤ so := by omega
    have so1 : so < 6 := by omega
    replace R2 : so ≠ 5 → R ≤ 20 := fun z => R2 (by omega)
    replace R3 : so < 2 → R ≤ 5 := fun z => R3 (by omega)
    clear sb2 wl2 hk2 hf tf lf hfo lf2 fv fs iR h_l6 hl6 s6 hG6 efc eso ekn hfl hkl
    obtain ⟨fs, rfl, sb, w0, hk, ⟨fv, hf, tf⟩, lf, hfo⟩ := hM
    obtain ⟨gx, hgx⟩ := w0.lst
    have lks : ks.length ≤ 3 := by omega
    refine ⟨_, rfl, _, rfl, kl, _, rfl, .inl (SqL.of hk), a, _, 60, rfl, by rw [List.length_map]; omega, w0, by omega, by omega, fun rows ml G2 hbg l1 l6 s2 w2 nml hml tml => ?_⟩
    rw [List.length_map] at hbg
    have b : NB H G2 a kl fl ml ks fs rows 80 := ⟨sb.trans s2, w2, s2 _ _ nkl hk, ⟨fv, s2 _ _ nfl hf, tf.but s2 hgx⟩, tml, nkl, nfl, nml, ne_of_none hk hml, ne_of_none hf hml, same_free sb hwx hml nml⟩
    have bd : Bd (fpt fs en) (ks.map (fpt fs)) (fs.map (·.pt)) (R + 2) := by
      have hf' : ∀ x ∈ fs.map (·.pt), -(R + 2) ≤ x ∧ x ≤ R + 2 := fun x hx => by
        obtain ⟨f, hfm, rfl⟩ := List.mem_map.mp hx
        have := (hfo f hfm).2.1
        omega
      exact ⟨by omega, getD_bd hf' (by omega), fun x hx => by
        obtain ⟨k, _, rfl⟩ := List.mem_map.mp hx
        exact getD_bd hf' (by omega), hf'⟩
    have g0 : RowsG ks.length fc (fpt fs en) (ks.map (fpt fs)) (fs.map (·.pt)) rows (R + 2) := RowsG.begin bd hbg
    have Rn : ∀ i : Nat, 0 ≤ R * (i : Int) := fun i => Int.mul_nonneg (by omega) (by omega)
    clear s2 w2 tml sb w0 hk hf tf hgx
    obtain ⟨mv, hmv, tmv⟩ := id b.m
    have lmv := tmv.rlen
    refine ⟨_, rfl, ml, _, rfl, .inl (SqL.of hmv), _, _, rfl, rfl, ?_⟩
    refine ⟨fun σ G => ∃ (rows : List Row) (last : Nat), σ = [some (.ref a), some (.int so), some (.int (fc : Int)), some (.int (en : Int)), none, some (.ref kl), some (.int R), some (.ref fl), some (.ref ml), some (.int (last : Int)), none, none, none] ∧ NB H G a kl fl ml ks fs rows 110 ∧ RowsG ks.length fc (fpt fs en) (ks.map (fpt fs)) (fs.map (·.pt)) rows (R + 8) ∧ last < rows.length ∧ rows.length ≤ 16 ∧ (∀ r ∈ rows, r.small), ?_, fun σ G hM => ?_⟩
    · have e : (mv.length : Int) - 1 = ((rows.length - 1 : Nat) : Int) := by omega
      refine ⟨_, rfl, a, 80, 3, rfl, b.w, by omega, by decide, by decide +kernel, fun r1 H1 r10 r11 d1 e1 w1 => ⟨_, _, rfl, rfl, _, rfl, ite2 (fun _ => ?_) (fun _ => ⟨rows, rows.length - 1, by rw [← e]; rfl, (b.one d1 w1).mono (by omega), g0.mono (by omega), by omega, by omega, beg_small hbg⟩)⟩⟩
      have b1 := b.one d1 w1
      refine ⟨_, rfl, _, rfl, _, rfl, _, _, rfl, a, ml, rows, if (6 : Int) < R then 6 else R, 80 + 1, rfl, b1.m, b1.n3, by split <;> omega, by split <;> omega, l1, l6, b1.w, by omega, by omega, fun ex last G3 hm ho hl le sb2 w2 tl => ?_⟩
      exact ⟨rows ++ ex, last, rfl, (b1.two sb2 w2 tl).mono (by omega), (RowsG.mix (by split <;> omega) bd g0 hm ho).mono (by split <;> omega), hl, by rw [List.length_append]; omega, app_small (beg_small hbg) (mix_small hm)⟩
    clear b g0 hmv tmv lmv mv hbg l1 l6 hml
    obtain ⟨rows1, last, rfl, b, RG1, hla, lr1, sm1⟩ := hM
    refine ⟨_, rfl, a, 110, 6, rfl, b.w, by omega, by decide, by decide +kernel, fun r51 H51 r510 r511 d51 e51 w51 => ⟨_, rfl, a, 110 + 1, 2, rfl, w51, by omega, by decide, by decide +kernel, fun r52 H52 r520 r521 d52 e52 w52 => ⟨(by show 2 ≤ sizeLine; decide), fun lx hlx => ?_⟩⟩⟩
    generalize hGx : upd _ lx _ = Gx1
    obtain ⟨sx1, h_lx⟩ := upd_gen hGx hlx
    obtain ⟨n1, in1, na1, nb1⟩ := pickN (so := so) 6 2 r510 r511 r520 r521
    have bx1 := ((b.one d51 w51).one d52 w52).new sx1
    refine ⟨_, rfl, rfl, .inr ⟨_, rfl, lx, _, _, .int (n1 : Int), rfl, rfl, SqL.of h_lx, in1, n1, rfl, by omega, by omega, ?_⟩⟩
    refine for_it walk_range (fun i σ G => ∃ (rows3 : List Row) (y4 : Option V), σ = [some (.ref a), some (.int so), some (.int (fc : Int)), some (.int (en : Int)), y4, some (.ref kl), some (.int R), some (.ref fl), some (.ref ml), some (.int (last : Int)), none, none, none] ∧ NB H G a kl fl ml ks fs rows3 (120 + 10 * i) ∧ RowsG ks.length fc (fpt fs en) (ks.map (fpt fs)) (fs.map (·.pt)) rows3 (R + 8 + R * i) ∧ rows3.length = rows1.length + i ∧ (∃ t, rows3 = rows1 ++ t) ∧ (so < 2 → ∀ r ∈ rows3, r.small)) ⟨rows1, none, rfl, bx1.mono (by omega), RG1.mono (by omega), rfl, ⟨[], (List.append_nil _).symm⟩, fun _ => sm1⟩ (fun _ _ _ _ _ => trivial) (fun i x σ G G' hi hP hY => ?_) (fun σ G hP => ?_)
    · obtain ⟨rows3, y4, rfl, b, rg, lr, ⟨t, et⟩, sm⟩ := hP
      obtain ⟨rfl, rfl⟩ := hY
      obtain ⟨mv, hmv, tmv⟩ := id b.m
      have lmv := tmv.rlen
      have i10 : i < 10 := by omega
      refine ⟨_, rfl, .inl ⟨rfl, _, SqL.of hmv⟩, _, rfl, _, rfl, _, rfl, ml, _, rfl, .inl (SqL.of hmv), _, rfl, _, _, rfl, rfl, _, rfl, _, rfl, kl, _, rfl, .inl (SqL.of b.k), a, fc, _, _, _, R, 120 + 10 * i, rfl, by omega, by omega, by omega, by omega, by omega, by omega, by rw [List.length_map]; omega, b.w, by omega, by omega, fun r p G2 rok rby rsm s2 w2 np hpn hp2 => ?_⟩
      have b1 := b.one s2 w2
      obtain ⟨gx, hgx⟩ := b.w.lst
      have hm2 := s2 _ _ b.n3 hmv
      have tm2 := tmv.but s2 hgx
      rw [List.length_map, lmv] at rok
      refine ⟨ml, _, _, rfl, rfl, hm2, sl_lt (by omega), rows3 ++ [r], _, rfl, (b1.two (SameBut2.two SameBut.upd) (b1.w.but SameBut.upd b.n3.symm) (TL7.push hm2 tm2 hp2)).mono (by omega), (rg.snoc bd (by have := Rn i; have := Rn i; omega) (by omega) rok rby).mono (by rw [Int.natCast_add, Int.mul_add]; omega), by rw [List.length_append, List.length_singleton, lr]; omega, ⟨t ++ [r], by rw [et, List.append_assoc]⟩, fun z => app_small (sm z) (one_small (rsm (decide_eq_true z)))⟩
    obtain ⟨rows2, y4, rfl, b2, RG, lr2, ⟨t2, et2⟩, sm2⟩ := hP
    have RB1 : R * (n1 : Int) ≤ 100 := by
      by_cases h5 : so = 5
      · have := na1 h5
        rcases (by omega : n1 = 0 ∨ n1 = 1) with rfl | rfl
        · show R * 0 ≤ 100
          omega
        · show R * 1 ≤ 100
          omega
      · have := nb1 h5
        have := R2 h5
        rcases (by omega : n1 = 0 ∨ n1 = 1 ∨ n1 = 2 ∨ n1 = 3 ∨ n1 = 4 ∨ n1 = 5) with rfl | rfl | rfl | rfl | rfl | rfl
        · show R * 0 ≤ 100
          omega
        · show R * 1 ≤ 100
          omega
        · show R * 2 ≤ 100
          omega
        · show R * 3 ≤ 100
          omega
        · show R * 4 ≤ 100
          omega
        · show R * 5 ≤ 100
          omega
    have n15 : n1 ≤ 5 := by
      by_cases h5 : so = 5
      · have := na1 h5
        omega
      · have := nb1 h5
        omega
    replace b2 := b2.mono (c' := 180) (by omega)
    refine ⟨(by show 0 ≤ sizeLine; decide), fun ll hll => ?_⟩
    generalize hG9 : upd _ ll _ = G9
    obtain ⟨s9, h_ll⟩ := upd_gen hG9 hll
    have nla : ll ≠ a := b2.w.ne hll
    have f_ll : H ll = none := same_free b2.sb hwx hll nla
    have nlk : kl ≠ ll := ne_of_none b2.k hll
    have nlf : fl ≠ ll := by
      obtain ⟨fv2, hf2, _⟩ := b2.f
      exact ne_of_none hf2 hll
    have nlm : ml ≠ ll := by
      obtain ⟨fv2, hf2, _⟩ := b2.m
      exact ne_of_none hf2 hll
    have b9 := b2.new s9
    refine ⟨_, rfl, kl, rfl, ⟨_, SqL.of b9.k⟩, ?_⟩
    refine for_it (walk_list (K := K) (a := kl) (xs := ks.map nI)) (fun i σ G => ∃ (rows3 : List Row) (hs : List Hold) (y11 y12 : Option V), σ = [some (.ref a), some (.int so), some (.int (fc : Int)), some (.int (en : Int)), y4, some (.ref kl), some (.int R), some (.ref fl), some (.ref ml), some (.int (last : Int)), some (.ref ll), y11, y12] ∧ NB H G a kl fl ml ks fs rows3 (180 + 12 * i) ∧ RowsG ks.length fc (fpt fs en) (ks.map (fpt fs)) (fs.map (·.pt)) rows3 (R + 8 + R * n1) ∧ (so < 2 → ∀ r ∈ rows3, r.small) ∧ rows3.length ≤ 21 + i ∧ last < rows3.length ∧ TL7 G ll (hs.map Hold.vs) ∧ hs.map (·.k) = ks.take i ∧ ∀ h ∈ hs, HoldOk fs rows3 h) ⟨rows2, [], none, none, rfl, b9.mono (by omega), RG, sm2, by omega, by omega, ⟨[], h_ll, .nil⟩, rfl, fun h x => nomatch x⟩ (fun i σ G hi hP => ?_) (fun i x σ G G' hi hP hY => ?_) (fun σ G hP => ?_)
    · obtain ⟨rows3, hs, y11, y12, rfl, b, _⟩ := hP
      exact SqL.of b.k
    · obtain ⟨rows3, hs, y11, y12, rfl, b, rg, sm3, lr3, la3, ⟨lv, hlv, tlv⟩, hke, hho⟩ := hP
      obtain ⟨rfl, hx⟩ := hY
      rw [List.getElem?_map] at hx
      obtain ⟨kd, ekd, rfl⟩ := Option.map_eq_some_iff.mp hx
      have i3 : i < ks.length := (List.getElem?_eq_some_iff.mp ekd).1
      have kdl : kd < fs.length := by
        have := hks kd (List.mem_of_getElem? ekd)
        omega
      have ef := List.getElem?_eq_getElem kdl
      have efrm := frm_at ef
      generalize fs[kd] = f at ef efrm
      obtain ⟨fv, hfv, tfv⟩ := id b.f
      obtain ⟨fp, ep, hfp⟩ := tfv.at (i := kd) (xs := f.vs) (by rw [List.getElem?_map, ef]; rfl)
      refine ⟨_, rfl, _, rfl, _, rfl, fl, _, _, .ref fp, rfl, rfl, SqL.of hfv, atI_nat ep, a, fp, f, 180 + 12 * i, rfl, hfp, (hfo f (List.mem_of_getElem? ef)).1, b.w, by omega, by omega, fun s G2 hin sz s2 w2 => ?_⟩
      obtain ⟨gx, hgx⟩ := b.w.lst
      have b3 := b.one s2 w2
      have hlv2 := s2 _ _ nla hlv
      have tlv2 := tlv.but s2 hgx
      obtain ⟨gx3, hgx3⟩ := b3.w.lst
      obtain ⟨mv3, hmv3, tmv3⟩ := id b3.m
      refine ⟨_, rfl, .inl ⟨rfl, _, SqL.of hlv2⟩, _, rfl, _, rfl, _, rfl, _, rfl, _, rfl, _, rfl, a, ml, rows3, kd, last, 180 + 12 * i + 5, rfl, b3.m, b3.n3, la3, by omega, b3.w, by omega, by omega, fun ex j x G3 hex hj sb3 w3 tl3 => ⟨(by show 3 ≤ sizeLine; decide), fun p hp => ?_⟩⟩
      have hlv3 := sb3 _ _ nla nlm.symm hlv2
      have tlv3 := tlv2.but2 sb3 hgx3 hmv3
      have b4 := b3.two sb3 w3 tl3
      generalize hGp : upd _ p _ = G5
      obtain ⟨s5, h_p⟩ := upd_gen hGp hp
      have hlv5 := s5 _ _ hlv3
      have b5 := b4.new s5
      have lhs : hs.length = i := by
        have := congrArg List.length hke
        rw [List.length_map, List.length_take] at this
        omega
      have llv := tlv.len
      rw [List.length_map] at llv
      have smx : ∀ r ∈ ex, r.small := by
        rcases hex with rfl | ⟨rfl, _⟩
        · exact fun r hr => (List.not_mem_nil hr).elim
        · exact one_small trivial
      refine ⟨ll, _, _, rfl, rfl, hlv5, sl_lt (by omega), rows3 ++ ex, hs ++ [⟨kd, s, j⟩], _, _, rfl, (b5.but SameBut.upd hlv5 f_ll nla.symm nlk nlf nlm).mono (by omega), ?_, (fun z => app_small (sm3 z) smx), ?_, ?_, ⟨_, upd_same, ?_⟩, ?_, fun h hh => ?_⟩
      · rcases hex with rfl | ⟨rfl, hx⟩
        · rw [List.append_nil]
          exact rg
        · exact rg.keep bd (by have := Rn n1; omega) (by omega) hx
      · rw [List.length_append]
        rcases hex with rfl | ⟨rfl, _⟩
        · rw [List.length_nil]
          omega
        · rw [List.length_singleton]
          omega
      · rw [List.length_append]
        omega
      · rw [List.map_append]
        exact TsAt.push hlv5 (tlv3.same s5) h_p
      · rw [List.map_append, hke, List.take_add_one, ekd]
        rfl
      · rcases List.mem_append.mp hh with hh | hh
        · exact (hho h hh).more
        · rw [List.mem_singleton.mp hh]
          refine ⟨kdl, ?_, sz, hj⟩
          show inR (frm fs kd).w s = true
          rw [efrm]
          exact hin
    obtain ⟨rows4, hs, y11, y12, rfl, b4, RG2, sm4, lr4, la4, ⟨lv, hlv, tlv⟩, hke, hho⟩ := hP
    rw [List.length_map, List.take_length] at hke
    rw [List.length_map] at lr4 b4
    replace b4 := b4.mono (c' := 216) (by omega)
    clear b2 b9 RG b bx1 RG1
    have lhs : hs.length = ks.length := by
      have := congrArg List.length hke
      rw [List.length_map] at this
      exact this
    obtain ⟨gx4, hgx4⟩ := b4.w.lst
    refine ⟨_, rfl, a, 216, 3, rfl, b4.w, by omega, by decide, by decide +kernel, fun r51 H51 r510 r511 d51 e51 w51 => ⟨_, rfl, a, 216 + 1, 2, rfl, w51, by omega, by decide, by decide +kernel, fun r52 H52 r520 r521 d52 e52 w52 => ⟨(by show 2 ≤ sizeLine; decide), fun lx hlx => ?_⟩⟩⟩
    generalize hGx : upd _ lx _ = Gx2
    obtain ⟨sx2, h_lx⟩ := upd_gen hGx hlx
    obtain ⟨n2, in2, na2, nb2⟩ := pickN (so := so) 3 2 r510 r511 r520 r521
    have bx2 := ((b4.one d51 w51).one d52 w52).new sx2
    refine ⟨_, rfl, rfl, .inr ⟨_, rfl, lx, _, _, .int (n2 : Int), rfl, rfl, SqL.of h_lx, in2, n2, rfl, by omega, by omega, ?_⟩⟩
    obtain ⟨gx5, hgx5⟩ := w51.lst
    have hlv6 := sx2 _ _ (d52 _ _ nla (d51 _ _ nla hlv))
    have tlv6 := ((tlv.but d51 hgx4).but d52 hgx5).same sx2
    refine for_it walk_range (fun i σ G => ∃ (rows3 : List Row) (y4 : Option V), σ = [some (.ref a), some (.int so), some (.int (fc : Int)), some (.int (en : Int)), y4, some (.ref kl), some (.int R), some (.ref fl), some (.ref ml), some (.int (last : Int)), (some (.ref ll)), y11, y12] ∧ NB H G a kl fl ml ks fs rows3 (220 + 10 * i) ∧ RowsG ks.length fc (fpt fs en) (ks.map (fpt fs)) (fs.map (·.pt)) rows3 (R + 8 + R * n1 + R * i) ∧ rows3.length = rows4.length + i ∧ (∃ t, rows3 = rows4 ++ t) ∧ (so < 2 → ∀ r ∈ rows3, r.small) ∧ TL7 G ll (hs.map Hold.vs)) ⟨rows4, y4, rfl, bx2.mono (by omega), RG2.mono (by omega), rfl, ⟨[], (List.append_nil _).symm⟩, sm4, ⟨lv, hlv6, tlv6⟩⟩ (fun _ _ _ _ _ => trivial) (fun i x σ G G' hi hP hY => ?_) (fun σ G hP => ?_)
    · obtain ⟨rows3, y4, rfl, b, rg, lr, ⟨t, et⟩, sm, ⟨lv, hlv, tlv⟩⟩ := hP
      obtain ⟨rfl, rfl⟩ := hY
      obtain ⟨mv, hmv, tmv⟩ := id b.m
      have lmv := tmv.rlen
      have i10 : i < 10 := by omega
      refine ⟨_, rfl, .inl ⟨rfl, _, SqL.of hmv⟩, _, rfl, _, rfl, _, rfl, ml, _, rfl, .inl (SqL.of hmv), _, rfl, _, _, rfl, rfl, _, rfl, _, rfl, kl, _, rfl, .inl (SqL.of b.k), a, fc, _, _, _, R, 220 + 10 * i, rfl, by omega, by omega, by omega, by omega, by omega, by omega, by rw [List.length_map]; omega, b.w, by omega, by omega, fun r p G2 rok rby rsm s2 w2 np hpn hp2 => ?_⟩
      have b1 := b.one s2 w2
      obtain ⟨gx, hgx⟩ := b.w.lst
      have hm2 := s2 _ _ b.n3 hmv
      have tm2 := tmv.but s2 hgx
      rw [List.length_map, lmv] at rok
      refine ⟨ml, _, _, rfl, rfl, hm2, sl_lt (by omega), rows3 ++ [r], _, rfl, (b1.two (SameBut2.two SameBut.upd) (b1.w.but SameBut.upd b.n3.symm) (TL7.push hm2 tm2 hp2)).mono (by omega), (rg.snoc bd (by have := Rn i; have := Rn n1; omega) (by omega) rok rby).mono (by rw [Int.natCast_add, Int.mul_add]; omega), by rw [List.length_append, List.length_singleton, lr]; omega, ⟨t ++ [r], by rw [et, List.append_assoc]⟩, (fun z => app_small (sm z) (one_small (rsm (decide_eq_true z)))), ⟨lv, by rw [upd_ne nlm.symm]; exact s2 _ _ nla hlv, (tlv.but s2 hgx).but SameBut.upd hm2⟩⟩
    obtain ⟨rows5, y4, rfl, b5, RG5, lr5, ⟨t5, et5⟩, sm5, ⟨lv5, hlv5, tlv5⟩⟩ := hP
    replace RG5 : RowsG ks.length fc (fpt fs en) (ks.map (fpt fs)) (fs.map (·.pt)) rows5 (R + 8 + R * (n1 : Int) + R * (n2 : Int)) := RG5
    have RB2 : R * (n2 : Int) ≤ 60 := by
      by_cases h5 : so = 5
      · have := na2 h5
        rcases (by omega : n2 = 0 ∨ n2 = 1) with rfl | rfl
        · show R * 0 ≤ 60
          omega
        · show R * 1 ≤ 60
          omega
      · have := nb2 h5
        have := R2 h5
        rcases (by omega : n2 = 0 ∨ n2 = 1 ∨ n2 = 2) with rfl | rfl | rfl
        · show R * 0 ≤ 60
          omega
        · show R * 1 ≤ 60
          omega
        · show R * 2 ≤ 60
          omega
    have RB3 : R + 8 + R * (n1 : Int) + R * (n2 : Int) ≤ 200 := by
      by_cases h5 : so = 5
      · have := na1 h5
        rcases (by omega : n1 = 0 ∨ n1 = 1) with rfl | rfl
        · show R + 8 + R * 0 + R * (n2 : Int) ≤ 200
          omega
        · show R + 8 + R * 1 + R * (n2 : Int) ≤ 200
          omega
      · have := R2 h5
        omega
    have n23 : n2 ≤ 3 := by
      by_cases h5 : so = 5
      · have := na2 h5
        omega
      · have := nb2 h5
        omega
    replace b5 := b5.mono (c' := 250) (by omega)
    obtain ⟨mv, hmv, tmv⟩ := id b5.m
    have lmv := tmv.rlen
    refine ⟨_, rfl, _, rfl, _, rfl, _, rfl, _, rfl, _, rfl, ml, _, rfl, .inl (SqL.of hmv), _, _, rfl, rfl, _, rfl, _, rfl, ml, _, rfl, .inl (SqL.of hmv), a, 250, _, rfl, b5.w, by omega, by omega, Nat.lt_of_le_of_lt (show _ ≤ 1000 by omega) (by decide +kernel), fun r61 H61 r610 r611 d61 e61 w61 => ⟨(by show 3 ≤ sizeLine; decide), fun lx hlx => ?_⟩⟩
    generalize hGx : upd _ lx _ = G7
    obtain ⟨s7, h_lx⟩ := upd_gen hGx hlx
    have b7 := (b5.one d61 w61).new s7
    refine ⟨_, rfl, a, 250 + 1, 3, rfl, b7.w, by omega, by decide, by decide +kernel, fun r62 H62 r620 r621 d62 e62 w62 => ?_⟩
    obtain ⟨v, i3, o3⟩ := threeI (x := V.int last) (y := V.int ((mv.length : Int) - 1)) (z := V.int r61) r620 r621
    obtain ⟨out, rfl, outl⟩ : ∃ x : Nat, v = .int (x : Int) ∧ x < rows5.length := by
      rcases o3 with rfl | rfl | rfl
      · exact ⟨_, rfl, by omega⟩
      · exact ⟨rows5.length - 1, by congr 1; omega, by omega⟩
      · exact ⟨r61.toNat, by congr 1; omega, by omega⟩
    have nlx : lx ≠ a := w61.ne hlx
    refine ⟨lx, _, _, _, rfl, rfl, SqL.of (d62 _ _ nlx h_lx), i3, (by show 5 ≤ sizeLine; decide), fun p hp => ?_⟩
    generalize hGp : upd _ p _ = G8
    obtain ⟨s8, h_p⟩ := upd_gen hGp hp
    have b8 := (b7.one d62 w62).new s8
    have np : p ≠ a := w62.ne hp
    obtain ⟨gx5, hgx5⟩ := b5.w.lst
    obtain ⟨gx7, hgx7⟩ := b7.w.lst
    have lhs2 : (⟨fs, en, rows5, hs, out⟩ : NetP).holds.length = ks.length := lhs
    have hpe : hpts ⟨fs, en, rows5, hs, out⟩ = ks.map (fpt fs) := by
      unfold hpts
      rw [← hke, List.map_map]
      rfl
    obtain ⟨gx8, hgx8⟩ := b8.w.lst
    have mild : Mild ⟨fs, en, rows5, hs, out⟩ := by
      by_cases z : so < 2
      · have r5 := R3 z
        have n5 := nb1 (by omega)
        have m3 := nb2 (by omega)
        have q1 : R * (n1 : Int) ≤ 25 := by
          have := Int.mul_le_mul (show R ≤ 5 by omega) (show (n1 : Int) ≤ 5 by omega) (by omega) (by omega)
          omega
        have q2 : R * (n2 : Int) ≤ 10 := by
          have := Int.mul_le_mul (show R ≤ 5 by omega) (show (n2 : Int) ≤ 2 by omega) (by omega) (by omega)
          omega
        refine .inr ⟨sm5 z, fun p hp => ?_, fun f hfm => ?_, by show rows5.length ≤ 27; omega⟩
        · have e : NetP.pts ⟨fs, en, rows5, hs, out⟩ = ptsOf (fpt fs en) (ks.map (fpt fs)) (fs.map (·.pt)) rows5 := by
            unfold NetP.pts
            rw [hpe]
          rw [e] at hp
          have := RG5.pb p hp
          omega
        · have := (hfo f hfm).2.1
          omega
      · exact .inl fun f hfm => (hfo f hfm).2.2 z
    refine q ⟨fs, en, rows5, hs, out⟩ p G8 ⟨by show 1 ≤ fs.length; omega, by show fs.length ≤ 12; omega, fun f hfm => (hfo f hfm).1, by show en < fs.length; omega, by rw [lhs2]; omega, fun h hh => ?_, by show 1 ≤ rows5.length; omega, by show rows5.length ≤ 60; omega, ?_, ?_, outl⟩ (fun h hh => (hho h hh).2.2.1) mild (by show rows5.length ≤ 26; omega) (b8.w.mono (by omega)) b8.sb (same_free (b7.one d62 w62).sb hwx hp np) (fun G9 s9 => PartsAt.but (n := ⟨fs, en, rows5, hs, out⟩) ⟨fl, ml, ll, h_p, b8.f, b8.m, lv5, s8 _ _ (d62 _ _ nla (s7 _ _ (d61 _ _ nla hlv5))), (((tlv5.but d61 hgx5).same s7).but d62 hgx7).same s8⟩ s9 hgx8 fun fa ra hb e => by
      rw [h_p] at e
      cases e
      exact ⟨b8.n2, b8.n3, nla⟩)
    · obtain ⟨h1, h2, _, x, hx⟩ := hho h hh
      refine ⟨h1, fun f ef => by rw [← frm_at ef]; exact h2, x, ?_⟩
      show rows5[h.l]? = some (.keep h.k x)
      rw [et5, List.getElem?_append_left (List.getElem?_eq_some_iff.mp hx).1]
      exact hx
    · intro i r e
      rw [lhs2]
      have := RG5.ok i r e
      rw [← lf] at this
      exact this
    · intro p hp
      have e : NetP.pts ⟨fs, en, rows5, hs, out⟩ = ptsOf (fpt fs en) (ks.map (fpt fs)) (fs.map (·.pt)) rows5 := by
        unfold NetP.pts
        rw [hpe]
      rw [e] at hp
      have := RG5.pb p hp
      omega
end
end E1

namespace E1
open PySem PySem.Spec PyProof.Rows L2
def spLRound : Sp := fun vs H Q _ => ∃ (t b : Int) (m : Mn), vs = [.int t, .int b, .str m.str] ∧ 0 < b ∧ b.natAbs < 2 ^ 4000 ∧ ∀ H', Same H H' → Q (.int (lawR m t b)) H'
theorem lawR_zero (m : Mn) {t b : Int} (hb : 0 < b) (h : t % b = 0) : lawR m t b = t / b := by
  cases m <;> simp [lawR, h, hb]
/-- the law's own word -/
def wordL (w : Option Int) (st : Bool) (n : Int) : Int := match w with
  | none => n
  | some x => if st = true then (if (if n < two (x - 1) - 1 then n else two (x - 1) - 1) > 0 - two (x - 1) then (if n < two (x - 1) - 1 then n else two (x - 1) - 1) else 0 - two (x - 1)) else (n + two (x - 1)) % (2 * two (x - 1)) - two (x - 1)
theorem two_succ {x : Int} (h : 1 ≤ x) : two x = 2 * two (x - 1) := by
  unfold two
  have e : x.toNat = (x - 1).toNat + 1 := by omega
  rw [e, Int.pow_succ, Int.mul_comm]
theorem word_is {w : Option Int} (hw : WOk w) (st : Bool) (n : Int) : wordF w st n = wordL w st n := by
  cases w with
  | none => rfl
  | some x =>
    obtain ⟨h1, h2⟩ := hw x rfl
    have r0 := two_pos (x - 1)
    have e := two_succ (x := x) (by omega)
    show (if (decide (lst x ≤ n) && decide (n ≤ grt x)) = true then n else if st = true then (if n < 0 then lst x else grt x) else (n - lst x) % two x + lst x) = (if st = true then (if (if n < two (x - 1) - 1 then n else two (x - 1) - 1) > 0 - two (x - 1) then (if n < two (x - 1) - 1 then n else two (x - 1) - 1) else 0 - two (x - 1)) else (n + two (x - 1)) % (2 * two (x - 1)) - two (x - 1))
    unfold lst grt
    rw [e]
    generalize two (x - 1) = r at *
    by_cases hi : (decide (-r ≤ n) && decide (n ≤ r - 1)) = true
    · rw [if_pos hi]
      rw [Bool.and_eq_true, decide_eq_true_eq, decide_eq_true_eq] at hi
      cases st with
      | true =>
        rw [if_pos rfl]
        split <;> split <;> omega
      | false =>
        rw [if_neg Bool.false_ne_true]
        have := Int.emod_eq_of_lt (a := n + r) (b := 2 * r) (by omega) (by omega)
        rw [this]
        omega
    · rw [if_neg hi]
      rw [Bool.and_eq_true, decide_eq_true_eq, decide_eq_true_eq] at hi
      cases st with
      | true =>
        rw [if_pos rfl, if_pos rfl]
        split <;> split <;> (try split) <;> omega
      | false =>
        rw [if_neg Bool.false_ne_true, if_neg Bool.false_ne_true, show n - -r = n + r by omega]
        omega

theorem word_bd {y : Int} (h : WOk (some y)) (st : Bool) (n : Int) : (wordF (some y) st n).natAbs < 2 ^ 70 := by
  rw [word_is h]
  obtain ⟨y0, y1⟩ := h y rfl
  have t1 : (two (y - 1)).natAbs ≤ 2 ^ 64 := by
    unfold two
    rw [Int.natAbs_pow]
    exact Nat.pow_le_pow_right (by decide) (by omega)
  have p1 := two_pos (y - 1)
  have b1 : (2 : Nat) ^ 70 = 2 ^ 64 * 64 := by decide
  show (if st = true then (if (if n < two (y - 1) - 1 then n else two (y - 1) - 1) > 0 - two (y - 1) then (if n < two (y - 1) - 1 then n else two (y - 1) - 1) else 0 - two (y - 1)) else (n + two (y - 1)) % (2 * two (y - 1)) - two (y - 1)).natAbs < 2 ^ 70
  have m0 := Int.emod_nonneg (n + two (y - 1)) (show 2 * two (y - 1) ≠ 0 by omega)
  have m1 := Int.emod_lt_of_pos (n + two (y - 1)) (show 0 < 2 * two (y - 1) by omega)
  rw [b1]
  generalize (n + two (y - 1)) % (2 * two (y - 1)) = u at *
  generalize two (y - 1) = t at *
  generalize (2 : Nat) ^ 64 = N at *
  cases st with
  | true =>
    rw [if_pos rfl]
    split <;> split <;> omega
  | false =>
    rw [if_neg (by decide)]
    omega
/-- a state's size behind so many turns -/
def SzS (n : NetP) (i : Nat) (st : List Int) : Prop := (∀ k ∈ st, k.natAbs < 2 ^ 70) ∨ (Calm n ∧ ∀ k ∈ st, k.natAbs < 2 ^ (70 + 2700 * i))
theorem behind_of {n : NetP} {nums : List Int} {k : Int} (h : k ∈ n.behind nums) : ∃ h ∈ n.holds, k = nums.getD h.l 0 := by
  unfold NetP.behind at h
  obtain ⟨x, hx, rfl⟩ := List.mem_map.mp h
  exact ⟨x, hx, rfl⟩
theorem turn_sz {n : NetP} (ok : NetOk n) (ml : Mild n) {x : Int} {st : List Int} {i : Nat} (hx : x.natAbs < 2 ^ 70) (h : SzS n i st) (hi : i < 300) : NumOk n x st ∧ SzS n (i + 1) (n.behind (n.nums x st)) := by
  have r60 := ok.r2
  rcases h with h | ⟨cm, h⟩
  · have a := all_take (num_lt ok ⟨hx, h⟩ n.rows.length (Nat.le_refl _))
    refine ⟨fun k hk => num_big r60 (a k hk), ?_⟩
    rcases ml with bd | cm
    · refine .inl fun k hk => ?_
      obtain ⟨hh, hm, rfl⟩ := behind_of hk
      obtain ⟨hf, _, b, eb⟩ := ok.ho hh hm
      have ef := List.getElem?_eq_getElem hf
      have e := accL_at (g := numRow n.fs n.pts x st) eb
      have e2 : (n.nums x st).getD hh.l 0 = numRow n.fs n.pts x st (accL (numRow n.fs n.pts x st) (n.rows.take hh.l)) (.keep hh.k b) := by
        unfold NetP.nums
        rw [List.getD_eq_getElem?_getD, e]
        rfl
      rw [e2]
      have wo := (ok.fo _ (List.getElem_mem hf)).wo
      have wn := bd _ (List.getElem_mem hf)
      have efr := frm_at ef
      show (wordF (frm n.fs hh.k).w (frm n.fs hh.k).st _).natAbs < 2 ^ 70
      rw [efr]
      cases hw : n.fs[hh.k].w with
      | none => exact absurd hw wn
      | some y =>
        rw [hw] at wo
        exact word_bd wo _ _
    · refine .inr ⟨cm, fun k hk => ?_⟩
      obtain ⟨hh, hm, rfl⟩ := behind_of hk
      have ln := cm.ln
      exact up (getD_lt (all_take (num_calm ok cm (Nat.le_refl _) hx h n.rows.length (Nat.le_refl _))) (Nat.pow_pos (by decide))) (by omega)
  · have ln := cm.ln
    have a := all_take (num_calm ok cm (show 70 ≤ 70 + 2700 * i by omega) hx h n.rows.length (Nat.le_refl _))
    refine ⟨fun k hk => up (a k hk) (by omega), .inr ⟨cm, fun k hk => ?_⟩⟩
    obtain ⟨hh, hm, rfl⟩ := behind_of hk
    exact up (getD_lt a (Nat.pow_pos (by decide))) (by omega)
/-- what a run tells, and the state behind -/
def runF (n : NetP) (st : List Int) (xs : List Int) : List Int × List Int := xs.foldl (fun p x => (p.1 ++ [(n.nums x p.2).getD n.out 0], n.behind (n.nums x p.2))) ([], st)
theorem runF_next {n : NetP} {st xs : List Int} {i : Nat} {x : Int} (h : xs[i]? = some x) : runF n st (xs.take (i + 1)) = ((runF n st (xs.take i)).1 ++ [(n.nums x (runF n st (xs.take i)).2).getD n.out 0], n.behind (n.nums x (runF n st (xs.take i)).2)) := by
  unfold runF
  rw [List.take_add_one, h, Option.toList_some, List.foldl_append]
  rfl
theorem run_facts {n : NetP} {st xs : List Int} (hl : st.length = n.holds.length) : ∀ i, i ≤ xs.length → (runF n st (xs.take i)).1.length = i ∧ (runF n st (xs.take i)).2.length = n.holds.length := by
  intro i
  induction i with
  | zero => exact fun _ => ⟨rfl, hl⟩
  | succ i ih =>
    intro hi
    obtain ⟨x, ex⟩ : ∃ x, xs[i]? = some x := ⟨_, List.getElem?_eq_getElem (by omega)⟩
    rw [runF_next ex]
    refine ⟨?_, ?_⟩
    · rw [List.length_append, (ih (by omega)).1]
      rfl
    · show (n.behind _).length = _
      unfold NetP.behind
      rw [List.length_map]
def RunOk (n : NetP) (st xs : List Int) : Prop := xs.length ≤ 300 ∧ ∀ i x, xs[i]? = some x → NumOk n x (runF n st (xs.take i)).2
theorem run_ok {n : NetP} (ok : NetOk n) (ml : Mild n) {st xs : List Int} (h0 : ∀ k ∈ st, k.natAbs < 2 ^ 70) (hx : ∀ x ∈ xs, x.natAbs < 2 ^ 70) (hl : xs.length ≤ 300) : RunOk n st xs := by
  have key : ∀ i, i ≤ xs.length → SzS n i (runF n st (xs.take i)).2 := by
    intro i
    induction i with
    | zero => exact fun _ => .inl h0
    | succ i ih =>
      intro hi
      obtain ⟨x, ex⟩ : ∃ x, xs[i]? = some x := ⟨_, List.getElem?_eq_getElem (by omega)⟩
      rw [runF_next ex]
      exact (turn_sz ok ml (hx x (List.mem_of_getElem? ex)) (ih (by omega)) (by omega)).2
  refine ⟨hl, fun i x ex => ?_⟩
  have il := (List.getElem?_eq_some_iff.mp ex).1
  exact (turn_sz ok ml (hx x (List.mem_of_getElem? ex)) (key i (by omega)) (by omega)).1
def starts (n : NetP) : List Int := n.holds.map (·.s)
def spStartM (C CN : Addr) : Sp := fun vs H Q _ => ∃ (p : Addr) (n : NetP), vs = [.ref p] ∧ NetAt C CN H p n ∧ ∀ t H', H t = none → Same H H' → H' t = some (.tup ((starts n).map V.int)) → Q (.ref t) H'
def spOutM (C CN : Addr) : Sp := fun vs H Q _ => ∃ (p : Addr) (n : NetP), vs = [.ref p] ∧ NetAt C CN H p n ∧ Q (.int n.out) H
def spFirst (C CN : Addr) : Sp := fun vs H Q _ => ∃ (p : Addr) (n : NetP) (v : V) (st : List Int), vs = [.ref p, v] ∧ NetAt C CN H p n ∧ ((v = .non ∧ st = starts n) ∨ ∃ sa, v = .ref sa ∧ H sa = some (.tup (st.map V.int)) ∧ StOk n st) ∧ ∀ t H', Same H H' → H' t = some (.tup (st.map V.int)) → Q (.ref t) H'
def spCkRun (C CN : Addr) : Sp := fun vs H Q _ => ∃ (p wl : Addr) (n : NetP) (xs : List Int), vs = [.ref p, .ref wl] ∧ NetAt C CN H p n ∧ H wl = some (.lst (xs.map V.int)) ∧ (∀ x ∈ xs, inR (frm n.fs n.en).w x = true) ∧ ∀ H', Same H H' → Q .non H'
def spRun (C CN : Addr) : Sp := fun vs H Q _ => ∃ (p wl : Addr) (n : NetP) (xs : List Int) (v : V) (st : List Int), vs = [.ref p, .ref wl, v] ∧ NetAt C CN H p n ∧ H wl = some (.lst (xs.map V.int)) ∧ (∀ x ∈ xs, inR (frm n.fs n.en).w x = true) ∧ ((v = .non ∧ st = starts n) ∨ ∃ sa, v = .ref sa ∧ H sa = some (.tup (st.map V.int)) ∧ StOk n st) ∧ st.length = n.holds.length ∧ RunOk n st xs ∧
  ∀ l H', H l = none → Same H H' → H' l = some (.lst ((runF n st xs).1.map V.int)) → Q (.ref l) H'
section
variable {P : Program} {w : World} {K : PySem.W.Frag} {mg : Str → Option Value} {base : Heap}
theorem sc_Net_start : FnScope ["self", "hold"] ["self"] (defScope s_Net_start) := ⟨rfl, rfl, rfl, by decide +kernel, rfl, by decide +kernel, by decide +kernel⟩
theorem ok_Net_start {f : Addr} {fd : FuncData} {k : Nat} {C CN : Addr} (TN : NTxt K mg CN) (F : Fun K "start" "Net.start" s_Net_start f fd) (z : Zs mg) : FnOk P w K mg base CX0 (k + 1) f fd ["self"] (spStartM C CN) := by
  refine F.ok sc_Net_start (fun vs H Q E h => ?_) (fun cdv A outer s H vs Q E hr h => ?_)
  · obtain ⟨p, n, rfl, _⟩ := h
    rfl
  · obtain ⟨p, n, rfl, ⟨ok, dx, fl, rl, hl2, pl, fv, rv, hv, b⟩, q⟩ := h
    refine ⟨_, (pss_one (ps_ret (pe_callTy call_tuple_of (by rfl) z.tuple (by decide +kernel) (pa_cons (pe_lc (own := [("hold", 1)]) (g := gName 1) (tt := tYes) (te := (tOp (rIxT K) (tVar 1) (tC (.int 1)))) (by rfl) sc_Net_start.nd (pi_list (pe_fld (pv 0) rfl)) (blkOk_by (own := [("hold", 1)]) (N := ["self", "hold"]) (sc := defScope s_Net_start) (by decide +kernel)) (fun _ _ _ _ _ => by exact (pg_name (i := 1) sc_Net_start.nd rfl (.inl rfl))) (fun _ _ _ _ _ => by exact pts_nil) (fun _ _ _ _ _ => by exact (pe_ix ix_tup (pv 1) pe_int (fun _ _ => rfl)))) pa_nil)))), ?_⟩
    have lh := b.hs.len
    rw [List.length_map] at lh
    have h6 := ok.h2
    refine ⟨_, rfl, p, CN, dx, _, _, rfl, b.ob, TN.cl, TN.n_hold_list, nl_h, hl2, rfl, ⟨_, SqL.of b.ha⟩, fun D hD => ?_⟩
    refine lc_it (walk_list (K := K) (a := hl2) (xs := hv)) (fun i G => Same H G ∧ G D = some (.lst (((n.holds.take i).map (·.s)).map V.int))) ⟨same_new hD, upd_same⟩ (fun i G _ hP => SqL.of (hP.1 _ _ b.ha)) (fun i v G G' hi hP hY => ?_) (fun G hP => ?_)
    · obtain ⟨s3, hd⟩ := hP
      obtain ⟨rfl, e1⟩ := hY
      obtain ⟨hp, xs, rfl, ex, hhp⟩ := b.hs.get e1
      rw [List.getElem?_map] at ex
      obtain ⟨hh, eh, rfl⟩ := Option.map_eq_some_iff.mp ex
      refine ⟨rfl, _, rfl, hp, _, 1, .int hh.s, rfl, rfl, SqT.of (s3 _ _ hhp), a1, _, hd, ?_, fun c o e => ?_, ?_⟩
      · rw [List.length_map, List.length_map, List.length_take]
        exact sl_lt (by omega)
      · rw [upd_ne (ne_of_none e hD)]
        exact s3 _ _ e
      · rw [upd_same, List.take_add_one, eh, List.map_append, List.map_append]
        rfl
    · obtain ⟨s3, hd⟩ := hP
      rw [lh, List.take_length] at hd
      refine ⟨D, _, rfl, .inl ⟨SqL.of hd, fun t ht => ?_⟩⟩
      generalize hG : upd _ t _ = G2
      obtain ⟨s4, h_t⟩ := upd_gen hG ht
      exact q t _ (s3.free ht) (s3.trans s4) h_t
end
end E1

namespace E1
open PySem PySem.Spec PyProof.Rows L2
/-- a kept number is a word of its form -/
theorem word_in {w : Option Int} (hw : WOk w) (st : Bool) (v : Int) : inR w (wordF w st v) = true := by
  cases w with
  | none => rfl
  | some y =>
    obtain ⟨y0, y1⟩ := hw y rfl
    have e := two_succ (x := y) (by omega)
    have r0 := two_pos (y - 1)
    show (decide (lst y ≤ if inR (some y) v = true then v else if st = true then (if v < 0 then lst y else grt y) else (v - lst y) % two y + lst y) && decide ((if inR (some y) v = true then v else if st = true then (if v < 0 then lst y else grt y) else (v - lst y) % two y + lst y) ≤ grt y)) = true
    rw [Bool.and_eq_true, decide_eq_true_eq, decide_eq_true_eq]
    by_cases c : inR (some y) v = true
    · rw [if_pos c]
      unfold inR at c
      rw [Bool.and_eq_true, decide_eq_true_eq, decide_eq_true_eq] at c
      exact c
    · rw [if_neg c]
      have m0 := Int.emod_nonneg (v - lst y) (show two y ≠ 0 by omega)
      have m1 := Int.emod_lt_of_pos (v - lst y) (show 0 < two y by omega)
      unfold lst grt at *
      rw [e] at *
      generalize two (y - 1) = t at *
      generalize (v - -t) % (2 * t) = u at *
      cases st with
      | true =>
        rw [if_pos rfl]
        split <;> omega
      | false =>
        rw [if_neg (by decide)]
        omega
/-- the state behind a turn is a state -/
theorem behind_ok {n : NetP} (ok : NetOk n) (x : Int) (st : List Int) : StOk n (n.behind (n.nums x st)) := by
  refine ⟨by unfold NetP.behind; rw [List.length_map], fun i h k e1 e2 => ?_⟩
  unfold NetP.behind at e2
  rw [List.getElem?_map, e1] at e2
  cases e2
  obtain ⟨hf, _, b, eb⟩ := ok.ho h (List.mem_of_getElem? e1)
  have e := accL_at (g := numRow n.fs n.pts x st) eb
  have e3 : (n.nums x st).getD h.l 0 = numRow n.fs n.pts x st (accL (numRow n.fs n.pts x st) (n.rows.take h.l)) (.keep h.k b) := by
    unfold NetP.nums
    rw [List.getD_eq_getElem?_getD, e]
    rfl
  show inR (frm n.fs h.k).w ((n.nums x st).getD h.l 0) = true
  rw [e3]
  have efr := frm_at (List.getElem?_eq_getElem hf)
  refine word_in ?_ _ _
  rw [efr]
  exact (ok.fo _ (List.getElem_mem hf)).wo
theorem starts_ok {n : NetP} (ok : NetOk n) : StOk n (starts n) := ⟨List.length_map .., fun i h2 k2 e1 e2 => by
  unfold starts at e2
  rw [List.getElem?_map, e1] at e2
  cases e2
  have hk := ok.ho h2 (List.mem_of_getElem? e1)
  have ef := List.getElem?_eq_getElem hk.1
  rw [frm_at ef]
  exact hk.2.1 _ ef⟩
theorem tup_shaped (ns : List Int) : SeqAt.shaped (.tuple (ns.map PyData.int)) = true := by
  simp [PySem.W.ke_canLayAll0, PySem.W.ke_depthAll, SeqAt.shaped, PyData.depth, PyData.canLay0]
theorem eqv_of {d : PyData} (h : SeqAt.shaped d = true) : PyData.eqv d d = true := SeqAt.eqv_refl _ (SeqAt.canLay_of_shaped h)
end E1

namespace E1
open PySem PySem.Spec PyProof.Rows L2

def spLMade (C CN : Addr) : Sp := fun vs H Q _ => ∃ (hp : Addr) (n : NetP), vs = [.ref hp] ∧ PartsAt H hp n ∧ NetOk n ∧ ∀ p H', Same H H' → NetAt C CN H' p n → Q (.ref p) H'
def spLPts : Sp := fun vs H Q _ => ∃ (hp : Addr) (n : NetP), vs = [.ref hp] ∧ PartsAt H hp n ∧ NetOk n ∧ ∀ l H', Same H H' → H l = none → H' l = some (.lst (n.pts.map V.int)) → Q (.ref l) H'
def spLKept : Sp := fun vs H Q _ => ∃ (pf : Addr) (f : FormP) (n x : Int), vs = [.ref pf, .int n, .int x] ∧ H pf = some (.tup f.vs) ∧ f.Ok ∧ -200 ≤ x ∧ x ≤ 200 ∧ n.natAbs < 2 ^ 900000 ∧ ∀ (t : Addr) (H' : Hp), Same H H' → H' t = some (.tup [.int (wordF f.w f.st (stepsAt f.pt f.m n x)), .int (stepsAt f.pt f.m n x - wordF f.w f.st (stepsAt f.pt f.m n x))]) → Q (.ref t) H'
def spLNum : Sp := fun vs H Q _ => ∃ (hp pa ra na sa : Addr) (n : NetP) (r : Row) (x : Int) (st nums : List Int), vs = [.ref hp, .ref pa, .ref ra, .ref na, .ref sa, .int x] ∧ PartsAt H hp n ∧ (∀ f ∈ n.fs, f.Ok) ∧ H pa = some (.lst (n.pts.map V.int)) ∧ H ra = some (.tup r.vs) ∧ H na = some (.lst (nums.map V.int)) ∧ H sa = some (.tup (st.map V.int)) ∧ RowOk st.length n.fs.length nums.length r ∧ nums.length ≤ n.pts.length ∧ (∀ k ∈ nums, k.natAbs < 2 ^ 900000) ∧ (∀ p ∈ n.pts, -200 ≤ p ∧ p ≤ 200) ∧ ∀ H', Same H H' → Q (.int (numRow n.fs n.pts x st nums r)) H'
theorem fpt_at {fs : List FormP} {k : Nat} {f : FormP} (h : fs[k]? = some f) : fpt fs k = f.pt := by
  unfold fpt
  rw [List.getD_eq_getElem?_getD, List.getElem?_map, h]
  rfl
theorem fat_one {C : Addr} {H : Hp} {p : Addr} {f : FormP} (h : FAt C H p f) : FsAt C H [.ref p] [f] := .cons h .nil
theorem make_same {G : Hp} {x dx C : Addr} (hx : G x = none) (hdx : G dx = none) (ne : dx ≠ x) : Same G (upd (upd G dx (.own x)) x (.ins C dx [])) :=
  (same_new hdx).trans (same_new (by rw [upd_ne ne.symm]; exact hx))
section
variable {P : Program} {w : World} {K : PySem.W.Frag} {mg : Str → Option Value} {base : Heap}
theorem sc__law_made : FnScope ["_law_house", "_law_forms", "_law_enters", "_law_rows", "_law_hold_list", "_law_out", "_law_one"] ["_law_house"] (defScope s__law_made) := ⟨rfl, rfl, rfl, by decide +kernel, rfl, by decide +kernel, by decide +kernel⟩
theorem ok__law_made {f : Addr} {fd : FuncData} {C CN : Addr} (F : Fun K "_law_made" "_law_made" s__law_made f fd) (z : Zs mg) (c_Form_4 : CalC P w K mg base 3 "Form" C ["self", "width", "point", "manner", "ends"] [] (spInit C)) (c_Net_5 : CalC P w K mg base 6 "Net" CN ["self", "forms", "enters", "rows", "holds", "out"] [] (spNetInit C CN)) : FnOk P w K mg base CX0 8 f fd ["_law_house"] (spLMade C CN) := by
  refine F.ok sc__law_made (fun vs H Q E h => ?_) (fun cdv A outer s H vs Q E hr h => ?_)
  · obtain ⟨hp, n, rfl, _⟩ := h
    rfl
  · obtain ⟨hp, n, rfl, ⟨fa, ra, ha, hhp, ⟨fv, hfa, tf⟩, ⟨rv, hra, tr⟩, ⟨hv, hha, th⟩⟩, ok, q⟩ := h
    refine ⟨_, (pss_cons (ps_asg (pv 0) (pg_tup (by rfl) (pgs_cons (pg_name (i := 1) sc__law_made.nd rfl (.inl rfl)) (pgs_cons (pg_name (i := 2) sc__law_made.nd rfl (.inl rfl)) (pgs_cons (pg_name (i := 3) sc__law_made.nd rfl (.inl rfl)) (pgs_cons (pg_name (i := 4) sc__law_made.nd rfl (.inl rfl)) (pgs_cons (pg_name (i := 5) sc__law_made.nd rfl (.inl rfl)) pgs_nil)))))))
      (pss_one (ps_ret (pe_calc c_Net_5 hr (pa_cons (pe_lc (own := [("_law_one", 6)]) (g := gName 6) (tt := tYes) (te := tMake C (spInit C) [] E0 (tCons (tOp (rIxT K) (tVar 6) (tC (.int 0))) (tCons (tOp (rIxT K) (tVar 6) (tC (.int 1))) (tCons (tOp (rIxT K) (tVar 6) (tC (.int 2))) (tCons (tOp (rIxT K) (tVar 6) (tC (.int 3))) tNil))))) (by rfl) sc__law_made.nd (pi_list (pv 1)) (blkOk_by (own := [("_law_one", 6)]) (N := ["_law_house", "_law_forms", "_law_enters", "_law_rows", "_law_hold_list", "_law_out", "_law_one"]) (sc := defScope s__law_made) (by decide +kernel)) (fun _ _ _ _ _ => by exact (pg_name (i := 6) sc__law_made.nd rfl (.inl rfl))) (fun _ _ _ _ _ => by exact pts_nil) (fun _ _ _ _ _ => by exact (pe_calc c_Form_4 hr (pa_cons (pe_ix ix_tup (pv 6) pe_int (fun _ _ => rfl)) (pa_cons (pe_ix ix_tup (pv 6) pe_int (fun _ _ => rfl)) (pa_cons (pe_ix ix_tup (pv 6) pe_int (fun _ _ => rfl)) (pa_cons (pe_ix ix_tup (pv 6) pe_int (fun _ _ => rfl)) pa_nil))))))) (pa_cons (pv 2) (pa_cons (pe_callTy call_list_of (by rfl) z.list (by decide +kernel) (pa_cons (pv 3) pa_nil)) (pa_cons (pe_callTy call_list_of (by rfl) z.list (by decide +kernel) (pa_cons (pv 4) pa_nil)) (pa_cons (pv 5) pa_nil))))))))), ?_⟩
    have lf := tf.len
    rw [List.length_map] at lf
    have f12 := ok.f2
    refine ⟨_, rfl, hp, _, rfl, SqT.of hhp, rfl, _, _, rfl, _, _, rfl, _, _, rfl, _, _, rfl, _, _, rfl, rfl, ?_⟩
    refine ⟨_, rfl, fa, rfl, ⟨_, SqL.of hfa⟩, fun D hD => ?_⟩
    refine lc_it (walk_list (K := K) (a := fa) (xs := fv)) (fun i G => Same H G ∧ ∃ ws, G D = some (.lst ws) ∧ FsAt C G ws (n.fs.take i)) ⟨same_new hD, [], upd_same, .nil⟩ (fun i G _ hP => SqL.of (hP.1 _ _ hfa)) (fun i x G G' hi hP hY => ?_) (fun G hP => ?_)
    · obtain ⟨s1, ws, hd, fw⟩ := hP
      obtain ⟨rfl, hx⟩ := hY
      obtain ⟨p, xs, rfl, exs, hp'⟩ := tf.get hx
      rw [List.getElem?_map] at exs
      obtain ⟨f, ef, rfl⟩ := Option.map_eq_some_iff.mp exs
      have hp2 := s1 _ _ hp'
      have fo := ok.fo f (List.mem_of_getElem? ef)
      have lw := fw.len
      rw [List.length_take] at lw
      refine ⟨rfl, _, rfl, p, _, 0, wV f.w, rfl, rfl, SqT.of hp2, a0, _, rfl, p, _, 1, .int f.pt, rfl, rfl, SqT.of hp2, a1, _, rfl, p, _, 2, .str f.m.str, rfl, rfl, SqT.of hp2, a2, _, rfl, p, _, 3, .str (endS f.st), rfl, rfl, SqT.of hp2, atI_nat (j := 3) rfl, fun x dx hx0 hdx ne => ?_⟩
      have sM := make_same (C := C) hx0 hdx ne
      refine ⟨x, dx, f.w, f.pt, f.m, f.st, rfl, fo.wo, fo.p0, fo.p1, upd_same, fun H2 hF fr1 fr2 => ⟨rfl, ?_⟩⟩
      have S2 : Same G' H2 := fun b o e => fr1 b o (ne_of_none e hx0) (sM _ _ e)
      have hd2 := S2 _ _ hd
      refine ⟨ws, hd2, sl_lt (by omega), fun b o e => ?_, _, upd_same, ?_⟩
      · rw [upd_ne (ne_of_none e hD)]
        exact S2 _ _ (s1 _ _ e)
      · rw [List.take_add_one, ef]
        exact ((fw.same S2).app (fat_one hF)).butL SameBut.upd hd2
    obtain ⟨s1, ws, hd, fw⟩ := hP
    rw [lf, List.take_length] at fw
    refine ⟨_, rfl, _, rfl, _, _, rfl, .inl (SqL.of (s1 _ _ hra)), fun r2 hr2 => ?_⟩
    generalize hG : upd _ r2 _ = G2
    obtain ⟨s2, h_r2⟩ := upd_gen hG hr2
    have S2 := s1.trans s2
    refine ⟨_, rfl, _, _, rfl, .inl (SqL.of (S2 _ _ hha)), fun h2 hh2 => ?_⟩
    generalize hG3 : upd _ h2 _ = G3
    obtain ⟨s3, h_h2⟩ := upd_gen hG3 hh2
    have S3 := S2.trans s3
    refine ⟨_, rfl, fun x dx hx0 hdx ne => ?_⟩
    have sM := make_same (C := CN) hx0 hdx ne
    have S4 := S3.trans sM
    refine ⟨x, dx, D, r2, h2, n, ws, rv, hv, rfl, upd_same, sM _ _ (s3 _ _ (s2 _ _ hd)), ((fw.same s2).same s3).same sM, sM _ _ (s3 _ _ h_r2), tr.same S4, sM _ _ h_h2, th.same S4, ok, fun H2 hN fr1 => ⟨rfl, q x H2 (fun b o e => fr1 b o (ne_of_none (S3 _ _ e) hx0) (S4 _ _ e)) hN⟩⟩
theorem sc__law_points : FnScope ["_law_house", "_law_forms", "_law_enters", "_law_rows", "_law_hold_list", "_law_out", "_law_found", "_law_row_here"] ["_law_house"] (defScope s__law_points) := ⟨rfl, rfl, rfl, by decide +kernel, rfl, by decide +kernel, by decide +kernel⟩
theorem ok__law_points {f : Addr} {fd : FuncData} {k : Nat} (F : Fun K "_law_points" "_law_points" s__law_points f fd) (z : Zs mg) : FnOk P w K mg base CX0 (k + 1) f fd ["_law_house"] spLPts := by
  refine F.ok sc__law_points (fun vs H Q E h => ?_) (fun cdv A outer s H vs Q E hr h => ?_)
  · obtain ⟨hp, n, rfl, _⟩ := h
    rfl
  · obtain ⟨hp, n, rfl, ⟨fa, ra, ha, hhp, ⟨fv, hfa, tf⟩, ⟨rv, hra, tr⟩, ⟨hv, hha, th⟩⟩, ok, q⟩ := h
    refine ⟨_, (pss_cons (ps_asg (pv 0) (pg_tup (by rfl) (pgs_cons (pg_name (i := 1) sc__law_points.nd rfl (.inl rfl)) (pgs_cons (pg_name (i := 2) sc__law_points.nd rfl (.inl rfl)) (pgs_cons (pg_name (i := 3) sc__law_points.nd rfl (.inl rfl)) (pgs_cons (pg_name (i := 4) sc__law_points.nd rfl (.inl rfl)) (pgs_cons (pg_name (i := 5) sc__law_points.nd rfl (.inl rfl)) pgs_nil)))))))
      (pss_cons (ps_set (i := 6) sc__law_points.nd rfl (.inl rfl) (pe_lst pa_nil))
      (pss_cons (ps_for PassesOwn.never rfl (pi_list (pv 3)) (pg_name (i := 7) sc__law_points.nd rfl (.inl rfl)) (pss_one (ps_if (pt_cmpR op_eq (pe_ix ix_tup (pv 7) pe_int (fun _ _ => rfl)) pe_str (nomark _)) (pss_one (ps_expr (pe_bm PySem.F.plainAttrs_list PySem.F.slot_list_append PySem.F.type_list_append mt_append (pv 6) (pa_cons (pe_ix ix_tup (pe_ix ix_list (pv 1) (pv 2) (fun _ _ => rfl)) pe_int (fun _ _ => rfl)) pa_nil)))) (pss_one (ps_if (pt_cmpR op_eq (pe_ix ix_tup (pv 7) pe_int (fun _ _ => rfl)) pe_str (nomark _)) (pss_one (ps_expr (pe_bm PySem.F.plainAttrs_list PySem.F.slot_list_append PySem.F.type_list_append mt_append (pv 6) (pa_cons (pe_ix ix_tup (pe_ix ix_list (pv 1) (pe_ix ix_tup (pe_ix ix_list (pv 4) (pe_ix ix_tup (pv 7) pe_int (fun _ _ => rfl)) (fun _ _ => rfl)) pe_int (fun _ _ => rfl)) (fun _ _ => rfl)) pe_int (fun _ _ => rfl)) pa_nil)))) (pss_one (ps_if (pt_cmpR op_eq (pe_ix ix_tup (pv 7) pe_int (fun _ _ => rfl)) pe_str (nomark _)) (pss_one (ps_expr (pe_bm PySem.F.plainAttrs_list PySem.F.slot_list_append PySem.F.type_list_append mt_append (pv 6) (pa_cons (pe_ix ix_tup (pe_ix ix_list (pv 1) (pe_ix ix_tup (pv 7) pe_int (fun _ _ => rfl)) (fun _ _ => rfl)) pe_int (fun _ _ => rfl)) pa_nil)))) (pss_one (ps_if (pt_cmpR op_eq (pe_ix ix_tup (pv 7) pe_int (fun _ _ => rfl)) pe_str (nomark _)) (pss_one (ps_expr (pe_bm PySem.F.plainAttrs_list PySem.F.slot_list_append PySem.F.type_list_append mt_append (pv 6) (pa_cons (pe_op op_add (pe_ix ix_list (pv 6) (pe_ix ix_tup (pv 7) pe_int (fun _ _ => rfl)) (fun _ _ => rfl)) (pe_ix ix_tup (pv 7) pe_int (fun _ _ => rfl))) pa_nil)))) (pss_one (ps_if (pt_cmpR op_eq (pe_ix ix_tup (pv 7) pe_int (fun _ _ => rfl)) pe_str (nomark _)) (pss_one (ps_expr (pe_bm PySem.F.plainAttrs_list PySem.F.slot_list_append PySem.F.type_list_append mt_append (pv 6) (pa_cons (pe_op op_sub (pe_ix ix_list (pv 6) (pe_ix ix_tup (pv 7) pe_int (fun _ _ => rfl)) (fun _ _ => rfl)) (pe_ix ix_tup (pv 7) pe_int (fun _ _ => rfl))) pa_nil)))) (pss_one (ps_expr (pe_bm PySem.F.plainAttrs_list PySem.F.slot_list_append PySem.F.type_list_append mt_append (pv 6) (pa_cons (pe_callB (call_max2 rfl) (by rfl) z.max (by decide +kernel) (pa_cons (pe_ix ix_list (pv 6) (pe_ix ix_tup (pv 7) pe_int (fun _ _ => rfl)) (fun _ _ => rfl)) (pa_cons (pe_ix ix_list (pv 6) (pe_ix ix_tup (pv 7) pe_int (fun _ _ => rfl)) (fun _ _ => rfl)) pa_nil))) pa_nil)))))))))))))))
      (pss_one (ps_ret (pv 6)))))), ?_⟩
    have lr := tr.rlen
    have r60 := ok.r2
    refine ⟨_, rfl, hp, _, rfl, SqT.of hhp, rfl, _, _, rfl, _, _, rfl, _, _, rfl, _, _, rfl, _, _, rfl, rfl, (by show 0 ≤ sizeLine; decide), fun dl hdl => ?_⟩
    generalize hG : upd _ dl _ = G0
    obtain ⟨s0, h_dl0⟩ := upd_gen hG hdl
    have nra := ne_of_none hra hdl
    have nfa := ne_of_none hfa hdl
    have nha := ne_of_none hha hdl
    refine ⟨_, rfl, ra, rfl, ⟨_, SqL.of (s0 _ _ hra)⟩, ?_⟩
    refine for_it (walk_list (K := K) (a := ra) (xs := rv)) (fun i σ G => ∃ y : Option V, σ = [some (.ref hp), some (.ref fa), some (.int n.en), some (.ref ra), some (.ref ha), some (.int n.out), some (.ref dl), y] ∧ SameBut dl G0 G ∧ G dl = some (.lst ((ptsOf (fpt n.fs n.en) (hpts n) (n.fs.map (·.pt)) (n.rows.take i)).map V.int))) ⟨none, rfl, SameBut.refl _ _, h_dl0⟩ (fun i σ G hi hP => ?_) (fun i v σ G G' hi hP hY => ?_) (fun σ G hP => ?_)
    · obtain ⟨y, rfl, B, _⟩ := hP
      exact SqL.of (B _ _ nra (s0 _ _ hra))
    · obtain ⟨y, rfl, B, hd⟩ := hP
      obtain ⟨rfl, hx⟩ := hY
      obtain ⟨rp, xs, rfl, ex, hrp⟩ := tr.get hx
      rw [List.getElem?_map] at ex
      obtain ⟨r, er, rfl⟩ := Option.map_eq_some_iff.mp ex
      have il := (List.getElem?_eq_some_iff.mp er).1
      replace hrp := B _ _ (ne_of (s0 _ _ hrp) h_dl0 (fun z => nomatch z)) (s0 _ _ hrp)
      have hfa2 := B _ _ nfa (s0 _ _ hfa)
      have hha2 := B _ _ nha (s0 _ _ hha)
      have hok := ok.ro i r er
      have li : (ptsOf (fpt n.fs n.en) (hpts n) (n.fs.map (·.pt)) (n.rows.take i)).length = i := by
        rw [ptsOf_len, List.length_take]
        omega
      have small : ((ptsOf (fpt n.fs n.en) (hpts n) (n.fs.map (·.pt)) (n.rows.take i)).map V.int).length < sizeLine := by
        rw [List.length_map, li]
        exact sl_lt (by omega)
      have step : ∀ v : Int, rowPt (fpt n.fs n.en) (hpts n) (n.fs.map (·.pt)) (ptsOf (fpt n.fs n.en) (hpts n) (n.fs.map (·.pt)) (n.rows.take i)) r = v → ∃ y : Option V, [some (.ref hp), some (.ref fa), some (.int n.en), some (.ref ra), some (.ref ha), some (.int n.out), some (.ref dl), some (.ref rp)] = [some (.ref hp), some (.ref fa), some (.int n.en), some (.ref ra), some (.ref ha), some (.int n.out), some (.ref dl), y] ∧ SameBut dl G0 (upd G' dl (.lst ((ptsOf (fpt n.fs n.en) (hpts n) (n.fs.map (·.pt)) (n.rows.take i)).map V.int ++ [V.int v]))) ∧ (upd G' dl (.lst ((ptsOf (fpt n.fs n.en) (hpts n) (n.fs.map (·.pt)) (n.rows.take i)).map V.int ++ [V.int v]))) dl = some (.lst ((ptsOf (fpt n.fs n.en) (hpts n) (n.fs.map (·.pt)) (n.rows.take (i + 1))).map V.int)) := fun v e => by
        refine ⟨_, rfl, B.trans SameBut.upd, ?_⟩
        rw [upd_same, ptsOf_next er, List.map_append, e]
        rfl
      match r, hrp, hok, step with
      | .inn, hrp, hok, step =>
        have kl := ok.en
        have ef := List.getElem?_eq_getElem kl
        obtain ⟨p, ep, hp'⟩ := tf.at (i := n.en) (xs := (n.fs[n.en]'kl).vs) (by rw [List.getElem?_map, ef]; rfl)
        replace hp' := B _ _ (ne_of (s0 _ _ hp') h_dl0 (fun z => nomatch z)) (s0 _ _ hp')
        refine ⟨_, rfl, rp, _, 0, .str _, rfl, rfl, SqT.of hrp, a0, rfl, _, rfl, iteC (d := true) (decide_eq_true rfl) (iteT ⟨_, rfl, .inl ⟨rfl, _, SqL.of hd⟩, _, rfl, _, rfl, fa, _, _, .ref p, rfl, rfl, SqL.of hfa2, atI_nat ep, p, _, 1, .int _, rfl, rfl, SqT.of hp', a1, dl, _, _, rfl, rfl, hd, small, ?_⟩)⟩
        exact step _ (fpt_at ef)
      | .old k, hrp, hok, step =>
        have hk : k < n.holds.length := hok
        have eh := List.getElem?_eq_getElem hk
        generalize n.holds[k] = hh at eh
        obtain ⟨hpA, eq1, hhA⟩ := th.at (i := k) (xs := hh.vs) (by rw [List.getElem?_map, eh]; rfl)
        replace hhA := B _ _ (ne_of (s0 _ _ hhA) h_dl0 (fun z => nomatch z)) (s0 _ _ hhA)
        have hpt : (hpts n).getD k 0 = fpt n.fs hh.k := by
          unfold hpts
          rw [List.getD_eq_getElem?_getD, List.getElem?_map, eh]
          rfl
        have kl := (ok.ho hh (List.mem_of_getElem? eh)).1
        have ef := List.getElem?_eq_getElem kl
        obtain ⟨p, ep, hp'⟩ := tf.at (i := hh.k) (xs := (n.fs[hh.k]'kl).vs) (by rw [List.getElem?_map, ef]; rfl)
        replace hp' := B _ _ (ne_of (s0 _ _ hp') h_dl0 (fun z => nomatch z)) (s0 _ _ hp')
        refine ⟨_, rfl, rp, _, 0, .str _, rfl, rfl, SqT.of hrp, a0, rfl, _, rfl, iteC (d := false) (decide_eq_false (fun z => absurd (V.str.inj z) (by decide +kernel))) (iteF ⟨_, rfl, rp, _, 0, .str _, rfl, rfl, SqT.of hrp, a0, rfl, _, rfl, iteC (d := true) (decide_eq_true rfl) (iteT ⟨_, rfl, .inl ⟨rfl, _, SqL.of hd⟩, _, rfl, _, rfl, _, rfl, rp, _, 1, _, rfl, rfl, SqT.of hrp, a1, ha, _, _, .ref hpA, rfl, rfl, SqL.of hha2, atI_nat eq1, hpA, _, 0, .int hh.k, rfl, rfl, SqT.of hhA, a0, fa, _, _, .ref p, rfl, rfl, SqL.of hfa2, atI_nat ep, p, _, 1, .int _, rfl, rfl, SqT.of hp', a1, dl, _, _, rfl, rfl, hd, small, ?_⟩)⟩)⟩
        exact step _ (hpt.trans (fpt_at ef))
      | .keep f a, hrp, hok, step =>
        have kl := hok.1
        have ef := List.getElem?_eq_getElem kl
        obtain ⟨p, ep, hp'⟩ := tf.at (i := f) (xs := (n.fs[f]'kl).vs) (by rw [List.getElem?_map, ef]; rfl)
        replace hp' := B _ _ (ne_of (s0 _ _ hp') h_dl0 (fun z => nomatch z)) (s0 _ _ hp')
        refine ⟨_, rfl, rp, _, 0, .str _, rfl, rfl, SqT.of hrp, a0, rfl, _, rfl, iteC (d := false) (decide_eq_false (fun z => absurd (V.str.inj z) (by decide +kernel))) (iteF ⟨_, rfl, rp, _, 0, .str _, rfl, rfl, SqT.of hrp, a0, rfl, _, rfl, iteC (d := false) (decide_eq_false (fun z => absurd (V.str.inj z) (by decide +kernel))) (iteF ⟨_, rfl, rp, _, 0, .str _, rfl, rfl, SqT.of hrp, a0, rfl, _, rfl, iteC (d := true) (decide_eq_true rfl) (iteT ⟨_, rfl, .inl ⟨rfl, _, SqL.of hd⟩, _, rfl, _, rfl, rp, _, 1, _, rfl, rfl, SqT.of hrp, a1, fa, _, _, .ref p, rfl, rfl, SqL.of hfa2, atI_nat ep, p, _, 1, .int _, rfl, rfl, SqT.of hp', a1, dl, _, _, rfl, rfl, hd, small, ?_⟩)⟩)⟩)⟩
        exact step _ (fpt_at ef)
      | .times f m a, hrp, hok, step =>
        obtain ⟨_, _, h3⟩ := hok
        rw [← li] at h3
        refine ⟨_, rfl, rp, _, 0, .str _, rfl, rfl, SqT.of hrp, a0, rfl, _, rfl, iteC (d := false) (decide_eq_false (fun z => absurd (V.str.inj z) (by decide +kernel))) (iteF ⟨_, rfl, rp, _, 0, .str _, rfl, rfl, SqT.of hrp, a0, rfl, _, rfl, iteC (d := false) (decide_eq_false (fun z => absurd (V.str.inj z) (by decide +kernel))) (iteF ⟨_, rfl, rp, _, 0, .str _, rfl, rfl, SqT.of hrp, a0, rfl, _, rfl, iteC (d := false) (decide_eq_false (fun z => absurd (V.str.inj z) (by decide +kernel))) (iteF ⟨_, rfl, rp, _, 0, .str _, rfl, rfl, SqT.of hrp, a0, rfl, _, rfl, iteC (d := true) (decide_eq_true rfl) (iteT ⟨_, rfl, .inl ⟨rfl, _, SqL.of hd⟩, _, rfl, _, rfl, rp, _, 3, _, rfl, rfl, SqT.of hrp, atI_nat (j := 3) rfl, dl, _, _, _, rfl, rfl, SqL.of hd, ints_at h3, _, rfl, rp, _, 2, _, rfl, rfl, SqT.of hrp, a2, _, _, rfl, rfl, dl, _, _, rfl, rfl, hd, small, ?_⟩)⟩)⟩)⟩)⟩
        exact step _ rfl
      | .move m a, hrp, hok, step =>
        obtain ⟨_, h3⟩ := hok
        rw [← li] at h3
        refine ⟨_, rfl, rp, _, 0, .str _, rfl, rfl, SqT.of hrp, a0, rfl, _, rfl, iteC (d := false) (decide_eq_false (fun z => absurd (V.str.inj z) (by decide +kernel))) (iteF ⟨_, rfl, rp, _, 0, .str _, rfl, rfl, SqT.of hrp, a0, rfl, _, rfl, iteC (d := false) (decide_eq_false (fun z => absurd (V.str.inj z) (by decide +kernel))) (iteF ⟨_, rfl, rp, _, 0, .str _, rfl, rfl, SqT.of hrp, a0, rfl, _, rfl, iteC (d := false) (decide_eq_false (fun z => absurd (V.str.inj z) (by decide +kernel))) (iteF ⟨_, rfl, rp, _, 0, .str _, rfl, rfl, SqT.of hrp, a0, rfl, _, rfl, iteC (d := false) (decide_eq_false (fun z => absurd (V.str.inj z) (by decide +kernel))) (iteF ⟨_, rfl, rp, _, 0, .str _, rfl, rfl, SqT.of hrp, a0, rfl, _, rfl, iteC (d := true) (decide_eq_true rfl) (iteT ⟨_, rfl, .inl ⟨rfl, _, SqL.of hd⟩, _, rfl, _, rfl, rp, _, 2, _, rfl, rfl, SqT.of hrp, a2, dl, _, _, _, rfl, rfl, SqL.of hd, ints_at h3, _, rfl, rp, _, 1, _, rfl, rfl, SqT.of hrp, a1, _, _, rfl, rfl, dl, _, _, rfl, rfl, hd, small, ?_⟩)⟩)⟩)⟩)⟩)⟩
        exact step _ rfl
      | .plus a b, hrp, hok, step =>
        obtain ⟨h1, h2⟩ := hok
        rw [← li] at h1 h2
        refine ⟨_, rfl, rp, _, 0, .str _, rfl, rfl, SqT.of hrp, a0, rfl, _, rfl, iteC (d := false) (decide_eq_false (fun z => absurd (V.str.inj z) (by decide +kernel))) (iteF ⟨_, rfl, rp, _, 0, .str _, rfl, rfl, SqT.of hrp, a0, rfl, _, rfl, iteC (d := false) (decide_eq_false (fun z => absurd (V.str.inj z) (by decide +kernel))) (iteF ⟨_, rfl, rp, _, 0, .str _, rfl, rfl, SqT.of hrp, a0, rfl, _, rfl, iteC (d := false) (decide_eq_false (fun z => absurd (V.str.inj z) (by decide +kernel))) (iteF ⟨_, rfl, rp, _, 0, .str _, rfl, rfl, SqT.of hrp, a0, rfl, _, rfl, iteC (d := false) (decide_eq_false (fun z => absurd (V.str.inj z) (by decide +kernel))) (iteF ⟨_, rfl, rp, _, 0, .str _, rfl, rfl, SqT.of hrp, a0, rfl, _, rfl, iteC (d := false) (decide_eq_false (fun z => absurd (V.str.inj z) (by decide +kernel))) (iteF ⟨_, rfl, .inl ⟨rfl, _, SqL.of hd⟩, _, rfl, _, rfl, rp, _, 1, _, rfl, rfl, SqT.of hrp, a1, dl, _, _, _, rfl, rfl, SqL.of hd, ints_at h1, _, rfl, _, rfl, rp, _, 2, _, rfl, rfl, SqT.of hrp, a2, dl, _, _, _, rfl, rfl, SqL.of hd, ints_at h2, _, _, rfl, dl, _, _, rfl, rfl, hd, small, ?_⟩)⟩)⟩)⟩)⟩)⟩
        exact step _ rfl
      | .less a b, hrp, hok, step =>
        obtain ⟨h1, h2⟩ := hok
        rw [← li] at h1 h2
        refine ⟨_, rfl, rp, _, 0, .str _, rfl, rfl, SqT.of hrp, a0, rfl, _, rfl, iteC (d := false) (decide_eq_false (fun z => absurd (V.str.inj z) (by decide +kernel))) (iteF ⟨_, rfl, rp, _, 0, .str _, rfl, rfl, SqT.of hrp, a0, rfl, _, rfl, iteC (d := false) (decide_eq_false (fun z => absurd (V.str.inj z) (by decide +kernel))) (iteF ⟨_, rfl, rp, _, 0, .str _, rfl, rfl, SqT.of hrp, a0, rfl, _, rfl, iteC (d := false) (decide_eq_false (fun z => absurd (V.str.inj z) (by decide +kernel))) (iteF ⟨_, rfl, rp, _, 0, .str _, rfl, rfl, SqT.of hrp, a0, rfl, _, rfl, iteC (d := false) (decide_eq_false (fun z => absurd (V.str.inj z) (by decide +kernel))) (iteF ⟨_, rfl, rp, _, 0, .str _, rfl, rfl, SqT.of hrp, a0, rfl, _, rfl, iteC (d := false) (decide_eq_false (fun z => absurd (V.str.inj z) (by decide +kernel))) (iteF ⟨_, rfl, .inl ⟨rfl, _, SqL.of hd⟩, _, rfl, _, rfl, rp, _, 1, _, rfl, rfl, SqT.of hrp, a1, dl, _, _, _, rfl, rfl, SqL.of hd, ints_at h1, _, rfl, _, rfl, rp, _, 2, _, rfl, rfl, SqT.of hrp, a2, dl, _, _, _, rfl, rfl, SqL.of hd, ints_at h2, _, _, rfl, dl, _, _, rfl, rfl, hd, small, ?_⟩)⟩)⟩)⟩)⟩)⟩
        exact step _ rfl
    · obtain ⟨y, rfl, B, hd⟩ := hP
      rw [lr, List.take_length] at hd
      exact ⟨_, rfl, q dl _ (same_but s0 B hdl) hdl hd⟩
theorem sc__law_rounded : FnScope ["_law_top", "_law_bottom", "_law_manner", "_law_lowest", "_law_rest"] ["_law_top", "_law_bottom", "_law_manner"] (defScope s__law_rounded) := ⟨rfl, rfl, rfl, by decide +kernel, rfl, by decide +kernel, by decide +kernel⟩
theorem ok__law_rounded {f : Addr} {fd : FuncData} {k : Nat} (F : Fun K "_law_rounded" "_law_rounded" s__law_rounded f fd) (z : Zs mg) : FnOk P w K mg base CX0 (k + 1) f fd ["_law_top", "_law_bottom", "_law_manner"] spLRound := by
  refine F.ok sc__law_rounded (fun vs H Q E h => ?_) (fun cdv A outer s H vs Q E hr h => ?_)
  · obtain ⟨t, b, m, rfl, _⟩ := h
    rfl
  · obtain ⟨t, b, m, rfl, hb, hl, q⟩ := h
    obtain ⟨e0, r0, r1⟩ := dm t hb
    refine ⟨_, (pss_cons (ps_asg (pe_callB call_divmodW (by rfl) z.divmod (by decide +kernel) (pa_cons (pv 0) (pa_cons (pv 1) pa_nil))) (pg_tup (by rfl) (pgs_cons (pg_name (i := 3) sc__law_rounded.nd rfl (.inl rfl)) (pgs_cons (pg_name (i := 4) sc__law_rounded.nd rfl (.inl rfl)) pgs_nil))))
      (pss_cons (ps_if (PW.pt (pw_or (pt_cmpR op_eq (pv 4) pe_int (nomark _)) (pw_or1 (pt_cmpR op_eq (pv 2) pe_str (nomark _))))) (pss_one (ps_ret (pv 3))) pss_nil)
      (pss_cons (ps_if (pt_cmpR op_eq (pv 2) pe_str (nomark _)) (pss_one (ps_ret (pe_op op_add (pv 3) pe_int))) pss_nil)
      (pss_cons (ps_if (pt_cmpR op_eq (pv 2) pe_str (nomark _)) (pss_one (ps_ret (pe_op op_add (pv 3) (pe_callTy call_int1 (by rfl) z.int (by decide +kernel) (pa_cons (pe_cmpR op_lt (pv 0) pe_int (nomark _)) pa_nil))))) pss_nil)
      (pss_cons (ps_if (pt_cmpR op_eq (pv 2) pe_str (nomark _)) (pss_one (ps_ret (pe_op op_add (pv 3) (pe_callTy call_int1 (by rfl) z.int (by decide +kernel) (pa_cons (pe_cmpR op_gt (pv 0) pe_int (nomark _)) pa_nil))))) pss_nil)
      (pss_cons (ps_if (pt_cmpR op_ne (pe_op op_mul pe_int (pv 4)) (pv 1) (nomark _)) (pss_one (ps_ret (pe_op op_add (pv 3) (pe_callTy call_int1 (by rfl) z.int (by decide +kernel) (pa_cons (pe_cmpR op_gt (pe_op op_mul pe_int (pv 4)) (pv 1) (nomark _)) pa_nil))))) pss_nil)
      (pss_cons (ps_if (pt_cmpR op_eq (pv 2) pe_str (nomark _)) (pss_one (ps_ret (pe_op op_add (pv 3) (pe_op op_mod (pv 3) pe_int)))) pss_nil)
      (pss_one (ps_ret (pe_op op_add (pv 3) (pe_callTy call_int1 (by rfl) z.int (by decide +kernel) (pa_cons (pe_or (pe_cmpR op_eq (pv 2) pe_str (nomark _)) (pe_one (pe_cmpR op_gt (pv 0) pe_int (nomark _)))) pa_nil)))))))))))), ?_⟩
    refine ⟨_, rfl, _, rfl, t, b, rfl, ⟨hb, PyProof.noPylong_of_log2 (Nat.lt_of_lt_of_le (PySem.Flt.log2_lt_of (by decide) hl) (by decide))⟩, fun d hd => ⟨d, _, rfl, SqT.of upd_same, rfl, _, _, rfl, _, _, rfl, rfl, ?_⟩⟩
    replace q := q _ (same_new (o := .tup [.int (t / b), .int (t % b)]) hd)
    generalize upd H d (.tup [.int (t / b), .int (t % b)]) = H1 at *
    refine ⟨_, rfl, rfl, _, rfl, ?_⟩
    by_cases hr0 : t % b = 0
    · rw [decide_eq_true (show V.int (t % b) = V.int 0 by rw [hr0])]
      refine iteT (iteT ⟨_, rfl, ?_⟩)
      rw [lawR_zero m hb hr0] at q
      exact q
    rw [decide_eq_false (show ¬ V.int (t % b) = V.int 0 from fun z => hr0 (V.int.inj z))]
    refine iteF ?_
    cases m with
    | down =>
      refine ⟨_, rfl, rfl, _, rfl, ?_⟩
      rw [show (decide (V.str (Mn.str .down) = V.str "down")) = true from by decide +kernel]
      refine iteT ⟨_, rfl, q⟩
    | up =>
      refine ⟨_, rfl, rfl, _, rfl, ?_⟩
      rw [show (decide (V.str (Mn.str .up) = V.str "down")) = false from by decide +kernel]
      refine iteF ?_
      refine ⟨_, rfl, rfl, _, rfl, ?_⟩
      rw [show (decide (V.str (Mn.str .up) = V.str "up")) = true from by decide +kernel]
      refine iteT ⟨_, rfl, _, _, rfl, rfl, ?_⟩
      have e : lawR .up t b = t / b + 1 := if_neg hr0
      rw [e] at q
      exact q
    | inn =>
      refine ⟨_, rfl, rfl, _, rfl, ?_⟩
      rw [show (decide (V.str (Mn.str .inn) = V.str "down")) = false from by decide +kernel]
      refine iteF ?_
      refine ⟨_, rfl, rfl, _, rfl, ?_⟩
      rw [show (decide (V.str (Mn.str .inn) = V.str "up")) = false from by decide +kernel]
      refine iteF ?_
      refine ⟨_, rfl, rfl, _, rfl, ?_⟩
      rw [show (decide (V.str (Mn.str .inn) = V.str "in")) = true from by decide +kernel]
      refine iteT ⟨_, rfl, _, rfl, _, _, rfl, rfl, .inr ⟨_, rfl, _, _, rfl, rfl, ?_⟩⟩
      have e : lawR .inn t b = t / b + (if t < 0 then 1 else 0) := if_neg hr0
      rw [e] at q
      simpa only [decide_eq_true_eq] using q
    | out =>
      refine ⟨_, rfl, rfl, _, rfl, ?_⟩
      rw [show (decide (V.str (Mn.str .out) = V.str "down")) = false from by decide +kernel]
      refine iteF ?_
      refine ⟨_, rfl, rfl, _, rfl, ?_⟩
      rw [show (decide (V.str (Mn.str .out) = V.str "up")) = false from by decide +kernel]
      refine iteF ?_
      refine ⟨_, rfl, rfl, _, rfl, ?_⟩
      rw [show (decide (V.str (Mn.str .out) = V.str "in")) = false from by decide +kernel]
      refine iteF ?_
      refine ⟨_, rfl, rfl, _, rfl, ?_⟩
      rw [show (decide (V.str (Mn.str .out) = V.str "out")) = true from by decide +kernel]
      refine iteT ⟨_, rfl, _, rfl, _, _, rfl, rfl, .inr ⟨_, rfl, _, _, rfl, rfl, ?_⟩⟩
      have e : lawR .out t b = t / b + (if t > 0 then 1 else 0) := if_neg hr0
      rw [e] at q
      simpa only [decide_eq_true_eq] using q
    | half =>
      refine ⟨_, rfl, rfl, _, rfl, ?_⟩
      rw [show (decide (V.str (Mn.str .half) = V.str "down")) = false from by decide +kernel]
      refine iteF ?_
      refine ⟨_, rfl, rfl, _, rfl, ?_⟩
      rw [show (decide (V.str (Mn.str .half) = V.str "up")) = false from by decide +kernel]
      refine iteF ?_
      refine ⟨_, rfl, rfl, _, rfl, ?_⟩
      rw [show (decide (V.str (Mn.str .half) = V.str "in")) = false from by decide +kernel]
      refine iteF ?_
      refine ⟨_, rfl, rfl, _, rfl, ?_⟩
      rw [show (decide (V.str (Mn.str .half) = V.str "out")) = false from by decide +kernel]
      refine iteF ?_
      have e : lawR .half t b = if 2 * (t % b) < b then t / b else t / b + 1 := rfl
      rw [e] at q
      refine ⟨_, rfl, _, _, rfl, rfl, .inl ⟨by decide, by decide⟩, _, rfl, rfl, _, rfl, ?_⟩
      by_cases h2 : 2 * (t % b) = b
      · rw [decide_eq_true (show V.int (2 * (t % b)) = V.int b by rw [h2])]
        refine iteF ?_
        rw [if_neg (by omega)] at q
        refine ⟨_, rfl, rfl, _, rfl, ?_⟩
        rw [show (decide (V.str (Mn.str .half) = V.str "even")) = false from by decide +kernel]
        refine iteF ⟨_, rfl, _, rfl, rfl, _, rfl, ?_⟩
        rw [show (decide (V.str (Mn.str .half) = V.str "half")) = true from by decide +kernel]
        refine iteT (.inr ⟨_, rfl, _, _, rfl, rfl, ?_⟩)
        exact q
      · rw [decide_eq_false (show ¬ V.int (2 * (t % b)) = V.int b from fun z => h2 (V.int.inj z))]
        refine iteT ⟨_, rfl, _, rfl, _, _, rfl, rfl, .inl ⟨by decide, by decide⟩, _, rfl, _, _, rfl, rfl, .inr ⟨_, rfl, _, _, rfl, rfl, ?_⟩⟩
        by_cases h3 : 2 * (t % b) < b
        · rw [if_pos h3] at q
          have e3 : t / b + (if decide (b < 2 * (t % b)) = true then (1 : Int) else 0) = t / b := by
            rw [if_neg (by rw [decide_eq_true_eq]; omega)]
            omega
          show Q (.int (t / b + (if decide (b < 2 * (t % b)) = true then (1 : Int) else 0))) H1
          rw [e3]
          exact q
        · rw [if_neg h3] at q
          show Q (.int (t / b + (if decide (b < 2 * (t % b)) = true then (1 : Int) else 0))) H1
          rw [if_pos (by rw [decide_eq_true_eq]; omega)]
          exact q
    | even =>
      refine ⟨_, rfl, rfl, _, rfl, ?_⟩
      rw [show (decide (V.str (Mn.str .even) = V.str "down")) = false from by decide +kernel]
      refine iteF ?_
      refine ⟨_, rfl, rfl, _, rfl, ?_⟩
      rw [show (decide (V.str (Mn.str .even) = V.str "up")) = false from by decide +kernel]
      refine iteF ?_
      refine ⟨_, rfl, rfl, _, rfl, ?_⟩
      rw [show (decide (V.str (Mn.str .even) = V.str "in")) = false from by decide +kernel]
      refine iteF ?_
      refine ⟨_, rfl, rfl, _, rfl, ?_⟩
      rw [show (decide (V.str (Mn.str .even) = V.str "out")) = false from by decide +kernel]
      refine iteF ?_
      have e : lawR .even t b = if 2 * (t % b) < b then t / b else if b < 2 * (t % b) then t / b + 1 else t / b + t / b % 2 := rfl
      rw [e] at q
      refine ⟨_, rfl, _, _, rfl, rfl, .inl ⟨by decide, by decide⟩, _, rfl, rfl, _, rfl, ?_⟩
      by_cases h2 : 2 * (t % b) = b
      · rw [decide_eq_true (show V.int (2 * (t % b)) = V.int b by rw [h2])]
        refine iteF ?_
        rw [if_neg (by omega)] at q
        rw [if_neg (by omega)] at q
        refine ⟨_, rfl, rfl, _, rfl, ?_⟩
        rw [show (decide (V.str (Mn.str .even) = V.str "even")) = true from by decide +kernel]
        refine iteT ⟨_, rfl, _, rfl, _, _, rfl, rfl, (by show (0 : Int) < 2; decide), _, _, rfl, rfl, ?_⟩
        exact q
      · rw [decide_eq_false (show ¬ V.int (2 * (t % b)) = V.int b from fun z => h2 (V.int.inj z))]
        refine iteT ⟨_, rfl, _, rfl, _, _, rfl, rfl, .inl ⟨by decide, by decide⟩, _, rfl, _, _, rfl, rfl, .inr ⟨_, rfl, _, _, rfl, rfl, ?_⟩⟩
        by_cases h3 : 2 * (t % b) < b
        · rw [if_pos h3] at q
          have e3 : t / b + (if decide (b < 2 * (t % b)) = true then (1 : Int) else 0) = t / b := by
            rw [if_neg (by rw [decide_eq_true_eq]; omega)]
            omega
          show Q (.int (t / b + (if decide (b < 2 * (t % b)) = true then (1 : Int) else 0))) H1
          rw [e3]
          exact q
        · rw [if_neg h3] at q
          rw [if_pos (by omega)] at q
          show Q (.int (t / b + (if decide (b < 2 * (t % b)) = true then (1 : Int) else 0))) H1
          rw [if_pos (by rw [decide_eq_true_eq]; omega)]
          exact q
    | far =>
      refine ⟨_, rfl, rfl, _, rfl, ?_⟩
      rw [show (decide (V.str (Mn.str .far) = V.str "down")) = false from by decide +kernel]
      refine iteF ?_
      refine ⟨_, rfl, rfl, _, rfl, ?_⟩
      rw [show (decide (V.str (Mn.str .far) = V.str "up")) = false from by decide +kernel]
      refine iteF ?_
      refine ⟨_, rfl, rfl, _, rfl, ?_⟩
      rw [show (decide (V.str (Mn.str .far) = V.str "in")) = false from by decide +kernel]
      refine iteF ?_
      refine ⟨_, rfl, rfl, _, rfl, ?_⟩
      rw [show (decide (V.str (Mn.str .far) = V.str "out")) = false from by decide +kernel]
      refine iteF ?_
      have e : lawR .far t b = if 2 * (t % b) < b then t / b else if b < 2 * (t % b) then t / b + 1 else t / b + (if t > 0 then 1 else 0) := rfl
      rw [e] at q
      refine ⟨_, rfl, _, _, rfl, rfl, .inl ⟨by decide, by decide⟩, _, rfl, rfl, _, rfl, ?_⟩
      by_cases h2 : 2 * (t % b) = b
      · rw [decide_eq_true (show V.int (2 * (t % b)) = V.int b by rw [h2])]
        refine iteF ?_
        rw [if_neg (by omega)] at q
        rw [if_neg (by omega)] at q
        refine ⟨_, rfl, rfl, _, rfl, ?_⟩
        rw [show (decide (V.str (Mn.str .far) = V.str "even")) = false from by decide +kernel]
        refine iteF ⟨_, rfl, _, rfl, rfl, _, rfl, ?_⟩
        rw [show (decide (V.str (Mn.str .far) = V.str "half")) = false from by decide +kernel]
        refine iteF ⟨_, rfl, _, _, rfl, rfl, .inr ⟨_, rfl, _, _, rfl, rfl, ?_⟩⟩
        simpa only [decide_eq_true_eq] using q
      · rw [decide_eq_false (show ¬ V.int (2 * (t % b)) = V.int b from fun z => h2 (V.int.inj z))]
        refine iteT ⟨_, rfl, _, rfl, _, _, rfl, rfl, .inl ⟨by decide, by decide⟩, _, rfl, _, _, rfl, rfl, .inr ⟨_, rfl, _, _, rfl, rfl, ?_⟩⟩
        by_cases h3 : 2 * (t % b) < b
        · rw [if_pos h3] at q
          have e3 : t / b + (if decide (b < 2 * (t % b)) = true then (1 : Int) else 0) = t / b := by
            rw [if_neg (by rw [decide_eq_true_eq]; omega)]
            omega
          show Q (.int (t / b + (if decide (b < 2 * (t % b)) = true then (1 : Int) else 0))) H1
          rw [e3]
          exact q
        · rw [if_neg h3] at q
          rw [if_pos (by omega)] at q
          show Q (.int (t / b + (if decide (b < 2 * (t % b)) = true then (1 : Int) else 0))) H1
          rw [if_pos (by rw [decide_eq_true_eq]; omega)]
          exact q

theorem sc__law_kept : FnScope ["_law_form_here", "_law_number", "_law_point", "_law_width", "_law_place", "_law_manner", "_law_ends", "_law_found", "_law_room", "_law_word_here"] ["_law_form_here", "_law_number", "_law_point"] (defScope s__law_kept) := ⟨rfl, rfl, rfl, by decide +kernel, rfl, by decide +kernel, by decide +kernel⟩
theorem ok__law_kept {f : Addr} {fd : FuncData} (F : Fun K "_law_kept" "_law_kept" s__law_kept f fd) (z : Zs mg) (c__law_rounded : Cal P w K mg base 1 "_law_rounded" ["_law_top", "_law_bottom", "_law_manner"] spLRound) : FnOk P w K mg base CX0 2 f fd ["_law_form_here", "_law_number", "_law_point"] spLKept := by
  refine F.ok sc__law_kept (fun vs H Q E h => ?_) (fun cdv A outer s H vs Q E hr h => ?_)
  · obtain ⟨pf, f, n, x, rfl, _⟩ := h
    rfl
  · obtain ⟨pf, f, n, x, rfl, hp, fo, x0, x1, hn, q⟩ := h
    refine ⟨_, (pss_cons (ps_asg (pv 0) (pg_tup (by rfl) (pgs_cons (pg_name (i := 3) sc__law_kept.nd rfl (.inl rfl)) (pgs_cons (pg_name (i := 4) sc__law_kept.nd rfl (.inl rfl)) (pgs_cons (pg_name (i := 5) sc__law_kept.nd rfl (.inl rfl)) (pgs_cons (pg_name (i := 6) sc__law_kept.nd rfl (.inl rfl)) pgs_nil))))))
      (C8.pss_cut (ps_if (pt_cmpR op_le (pv 2) (pv 4) (nomark _)) (pss_one (ps_set (i := 7) sc__law_kept.nd rfl (.inl rfl) (pe_op op_mulW (pv 1) (pe_op op_shlW pe_int (pe_op op_sub (pv 4) (pv 2)))))) (pss_one (ps_set (i := 7) sc__law_kept.nd rfl (.inl rfl) (pe_cal c__law_rounded hr (pa_cons (pv 1) (pa_cons (pe_op op_shlW pe_int (pe_op op_sub (pv 2) (pv 4))) (pa_cons (pv 5) pa_nil)))))))
      (pss_cons (ps_if (pt_cmpR op_isN (pv 3) pe_non (nomark _)) (pss_one (ps_ret (pe_tup (pa_cons (pv 7) (pa_cons pe_int pa_nil))))) pss_nil)
      (pss_cons (ps_set (i := 8) sc__law_kept.nd rfl (.inl rfl) (pe_op op_shlW pe_int (pe_op op_sub (pv 3) pe_int)))
      (pss_cons (ps_set (i := 9) sc__law_kept.nd rfl (.inl rfl) (pe_op op_sub (pe_op op_mod (pe_op op_add (pv 7) (pv 8)) (pe_op op_mul pe_int (pv 8))) (pv 8)))
      (C8.pss_cut (ps_if (pt_cmpR op_eq (pv 6) pe_str (nomark _)) (pss_one (ps_set (i := 9) sc__law_kept.nd rfl (.inl rfl) (pe_callB (call_max2 rfl) (by rfl) z.max (by decide +kernel) (pa_cons (pe_op op_sub pe_int (pv 8)) (pa_cons (pe_callB (call_min2 rfl) (by rfl) z.min (by decide +kernel) (pa_cons (pe_op op_sub (pv 8) pe_int) (pa_cons (pv 7) pa_nil))) pa_nil))))) pss_nil)
      (pss_one (ps_ret (pe_tup (pa_cons (pv 9) (pa_cons (pe_op op_sub (pv 7) (pv 9)) pa_nil))))))))))), ?_⟩
    obtain ⟨w, pt, m, st⟩ := f
    obtain ⟨wo, p0, p1⟩ := fo
    replace p0 : -64 ≤ pt := p0
    replace p1 : pt ≤ 64 := p1
    refine ⟨_, rfl, pf, _, rfl, SqT.of hp, rfl, _, _, rfl, _, _, rfl, _, _, rfl, _, _, rfl, rfl, ?_⟩
    refine ⟨fun σ G => σ = [some (.ref pf), some (.int n), some (.int x), some (wV w), some (.int pt), some (.str m.str), some (.str (endS st)), some (.int (stepsAt pt m n x)), none, none] ∧ Same H G, ?_, fun σ G hM => ?_⟩
    · refine ⟨_, rfl, _, rfl, _, _, rfl, rfl, _, rfl, ite2 (fun c => ?_) (fun c => ?_)⟩
      · have hc : x ≤ pt := toB c
        have e : pt - x = (((pt - x).toNat : Nat) : Int) := by omega
        refine ⟨_, rfl, _, rfl, _, rfl, _, _, rfl, rfl, _, _, rfl, rfl, ?_, _, _, rfl, rfl, ?_, ?_, Same.refl _⟩
        · show CShl 1 (pt - x)
          rw [e]
          exact shl_ok (n := 1) (by decide) (by omega)
        · show CMulW n (1 * 2 ^ (pt - x).toNat)
          rw [Int.one_mul]
          exact wide_mul hn (two_pow_lt (n := 300) (by omega)) (by omega) (by omega) (by omega)
        · have es : stepsAt pt m n x = n * (1 * 2 ^ (pt - x).toNat) := by
            rw [Int.one_mul]
            exact if_pos hc
          rw [es]
          rfl
      · have hc : ¬ x ≤ pt := toNB c
        have e : x - pt = (((x - pt).toNat : Nat) : Int) := by omega
        have e1 : (1 : Int) * 2 ^ (x - pt).toNat = 2 ^ (x - pt).toNat := Int.one_mul _
        refine ⟨_, rfl, _, rfl, _, rfl, _, _, rfl, rfl, _, _, rfl, rfl, ?_, _, rfl, n, 1 * 2 ^ (x - pt).toNat, m, rfl, ?_, ?_, fun H2 s2 => ⟨?_, s2⟩⟩
        · show CShl 1 (x - pt)
          rw [e]
          exact shl_ok (n := 1) (by decide) (by omega)
        · rw [e1]
          exact two_pow_pos _
        · rw [e1]
          exact up (two_pow_lt (n := 300) (by omega)) (by decide)
        · have es : stepsAt pt m n x = lawR m n (1 * 2 ^ (x - pt).toNat) := by
            rw [e1]
            exact (if_neg hc).trans (f_lawR m (two_pow_pos _))
          rw [es]
          rfl
    obtain ⟨rfl, s1⟩ := hM
    replace q : ∀ (t : Addr) (H' : Hp), Same H H' → H' t = some (.tup [.int (wordF w st (stepsAt pt m n x)), .int (stepsAt pt m n x - wordF w st (stepsAt pt m n x))]) → Q (.ref t) H' := q
    generalize stepsAt pt m n x = S at *
    refine ⟨_, rfl, rfl, _, rfl, ?_⟩
    cases w with
    | none => exact iteT ⟨_, rfl, (by show 2 ≤ sizeLine; decide), fun t ht => q t _ (s1.trans (same_new ht)) (by rw [upd_same]; show _ = some (HO.tup [V.int S, V.int (S - S)]); rw [Int.sub_self])⟩
    | some y =>
      obtain ⟨y0, y1⟩ := wo y rfl
      have r0 := two_pos (y - 1)
      have e4 : (1 : Int) * 2 ^ (y - 1).toNat = two (y - 1) := Int.one_mul _
      have e : y - 1 = (((y - 1).toNat : Nat) : Int) := by omega
      rw [word_is wo st S] at q
      refine iteF ⟨_, rfl, _, _, rfl, rfl, _, _, rfl, rfl, ?_, _, rfl, _, rfl, _, _, rfl, rfl, _, rfl, _, _, rfl, rfl, .inl ⟨by decide, by decide⟩, _, _, rfl, rfl, ?_, _, rfl, _, _, rfl, rfl, ?_⟩
      · show CShl 1 (y - 1)
        rw [e]
        exact shl_ok (n := 1) (by decide) (by omega)
      · show 0 < 2 * (1 * 2 ^ (y - 1).toNat)
        rw [e4]
        omega
      refine ⟨fun σ G2 => σ = [some (.ref pf), some (.int n), some (.int x), some (wV (some y)), some (.int pt), some (.str m.str), some (.str (endS st)), some (.int S), some (.int (1 * 2 ^ (y - 1).toNat)), some (.int (wordL (some y) st S))] ∧ G2 = G, ?_, fun σ G2 hM => ?_⟩
      · cases st with
        | false =>
          refine ⟨_, rfl, rfl, _, rfl, iteC (d := false) (decide_eq_false (fun z => absurd (V.str.inj z) (by decide +kernel))) (iteF ⟨?_, rfl⟩)⟩
          have e5 : (S + 1 * 2 ^ (y - 1).toNat) % (2 * (1 * 2 ^ (y - 1).toNat)) - 1 * 2 ^ (y - 1).toNat = wordL (some y) false S := by
            rw [e4]
            rfl
          rw [← e5]
          rfl
        | true =>
          refine ⟨_, rfl, rfl, _, rfl, iteC (d := true) (decide_eq_true rfl) (iteT ⟨_, rfl, _, _, rfl, rfl, _, rfl, _, _, rfl, rfl, _, rfl, _, _, rfl, _, _, rfl, ?_, rfl⟩)⟩
          have e5 : (if (if S < 1 * 2 ^ (y - 1).toNat - 1 then S else 1 * 2 ^ (y - 1).toNat - 1) > 0 - 1 * 2 ^ (y - 1).toNat then (if S < 1 * 2 ^ (y - 1).toNat - 1 then S else 1 * 2 ^ (y - 1).toNat - 1) else 0 - 1 * 2 ^ (y - 1).toNat) = wordL (some y) true S := by
            rw [e4]
            rfl
          rw [← e5]
          rfl
      obtain ⟨rfl, rfl⟩ := hM
      exact ⟨_, rfl, _, rfl, _, rfl, _, _, rfl, rfl, (by show 2 ≤ sizeLine; decide), fun t ht => q t _ (s1.trans (same_new ht)) upd_same⟩
end
end E1

namespace E1
open PySem PySem.Spec PyProof.Rows L2
/-! ### stretches of rows -/
abbrev Sp2 : Type := Int × Int
def spV (s : Sp2) : List V := [.int s.1, .int s.2]
/-- lists grown one by one -/
def accS (g : List Sp2 → Row → Sp2) (rows : List Row) : List Sp2 := rows.foldl (fun a r => a ++ [g a r]) []
theorem accS_snoc (g : List Sp2 → Row → Sp2) (rows : List Row) (r : Row) : accS g (rows ++ [r]) = accS g rows ++ [g (accS g rows) r] := by
  unfold accS
  rw [List.foldl_append]
  rfl
theorem accS_len (g : List Sp2 → Row → Sp2) : ∀ k : Nat, ∀ rows : List Row, rows.length = k → (accS g rows).length = rows.length
  | 0, rows, h => by
    rw [List.length_eq_zero_iff.mp h]
    rfl
  | k + 1, rows, h => by
    obtain ⟨a, r, rfl⟩ : ∃ a r, rows = a ++ [r] := by
      rcases List.eq_nil_or_concat rows with rfl | ⟨a, r, e⟩
      · cases h
      · exact ⟨a, r, by rw [e, List.concat_eq_append]⟩
    rw [List.length_append, List.length_singleton] at h
    rw [accS_snoc, List.length_append, List.length_append, accS_len g k a (by omega)]
    rfl
theorem accS_pre (g : List Sp2 → Row → Sp2) (a : List Row) : ∀ b : List Row, ∃ t, accS g (a ++ b) = accS g a ++ t := fun b => by
  unfold accS
  rw [List.foldl_append]
  generalize List.foldl (fun a r => a ++ [g a r]) [] a = acc
  induction b generalizing acc with
  | nil => exact ⟨[], (List.append_nil _).symm⟩
  | cons r rs ih =>
    obtain ⟨t, e⟩ := ih (acc ++ [g acc r])
    exact ⟨g acc r :: t, by rw [List.foldl_cons, e, List.append_assoc]; rfl⟩
theorem accS_next {g : List Sp2 → Row → Sp2} {rows : List Row} {i : Nat} {r : Row} (h : rows[i]? = some r) : accS g (rows.take (i + 1)) = accS g (rows.take i) ++ [g (accS g (rows.take i)) r] := by
  rw [List.take_add_one, h, Option.toList_some, accS_snoc]
theorem accS_at {g : List Sp2 → Row → Sp2} {rows : List Row} {i : Nat} {r : Row} (h : rows[i]? = some r) : (accS g rows)[i]? = some (g (accS g (rows.take i)) r) := by
  have hl := (List.getElem?_eq_some_iff.mp h).1
  obtain ⟨t, e⟩ := accS_pre g (rows.take (i + 1)) (rows.drop (i + 1))
  rw [List.take_append_drop, accS_next h] at e
  have li : (accS g (rows.take i)).length = i := by
    rw [accS_len g _ _ rfl, List.length_take]
    omega
  rw [e, List.append_assoc, List.getElem?_append_right (by omega), li, Nat.sub_self]
  rfl
def hasIn (s t : Sp2) : Bool := decide (s.1 ≤ t.1) && decide (t.2 ≤ s.2)
/-- all words of a form that has a width -/
def wordsOf (F : FormP) : Sp2 := match F.w with
  | some y => (lst y, grt y)
  | none => (0, 0)
def endW (F : FormP) (x p : Int) : Int := wordF F.w F.st (stepsAt F.pt F.m x p)
def endO (F : FormP) (x p : Int) : Int := stepsAt F.pt F.m x p - wordF F.w F.st (stepsAt F.pt F.m x p)
def overB (F : FormP) (s : Sp2) (p : Int) : Bool := !decide (endO F s.1 p = 0) || !decide (endO F s.2 p = 0)
def keepSp (F : FormP) (s : Sp2) (p : Int) : Sp2 := if overB F s p = true ∧ F.st = false then wordsOf F else (endW F s.1 p, endW F s.2 p)
def shlP (pts : List Int) (a b c : Nat) : Nat := let x := pts.getD a 0; let y := pts.getD b 0; ((if y > x then y else x) - pts.getD c 0).toNat
def sumSp (pts : List Int) (acc : List Sp2) (a b : Nat) : Sp2 :=
  ((acc.getD a (0, 0)).1 * 2 ^ shlP pts a b a + (acc.getD b (0, 0)).1 * 2 ^ shlP pts a b b, (acc.getD a (0, 0)).2 * 2 ^ shlP pts a b a + (acc.getD b (0, 0)).2 * 2 ^ shlP pts a b b)
def lessSp (pts : List Int) (acc : List Sp2) (a b : Nat) : Sp2 :=
  ((acc.getD a (0, 0)).1 * 2 ^ shlP pts a b a - (acc.getD b (0, 0)).2 * 2 ^ shlP pts a b b, (acc.getD a (0, 0)).2 * 2 ^ shlP pts a b a - (acc.getD b (0, 0)).1 * 2 ^ shlP pts a b b)
def minI (a b : Int) : Int := if b < a then b else a
def maxI (a b : Int) : Int := if b > a then b else a
def timesSp (f : Int) (s : Sp2) : Sp2 := (minI (f * s.1) (f * s.2), maxI (f * s.1) (f * s.2))
def rowSp (fs : List FormP) (pts : List Int) (x : Sp2) (held acc : List Sp2) : Row → Sp2
  | .inn => x
  | .old k => held.getD k (0, 0)
  | .times f _ a => timesSp f (acc.getD a (0, 0))
  | .plus a b => sumSp pts acc a b
  | .less a b => lessSp pts acc a b
  | .move _ a => acc.getD a (0, 0)
  | .keep f a => keepSp (frm fs f) (acc.getD a (0, 0)) (pts.getD a 0)
def NetP.spans (n : NetP) (x : Sp2) (held : List Sp2) : List Sp2 := accS (rowSp n.fs n.pts x held) n.rows
theorem spans_len (n : NetP) (x : Sp2) (held : List Sp2) : (n.spans x held).length = n.rows.length := accS_len _ _ _ rfl
def hullI (s t : Sp2) : Sp2 := (minI s.1 t.1, maxI s.2 t.2)
def growOne (F : FormP) (o s : Sp2) (late : Bool) : Option Sp2 := if hasIn o s = true then some o else if late = false then some (hullI o s) else match F.w with
  | none => none
  | some _ => some (wordsOf F)
/-- the holds' stretches behind a round; none where one cannot be told -/
def growL (fs : List FormP) (sp : List Sp2) (late : Bool) : List Hold → List Sp2 → List (Option Sp2)
  | h :: hs, o :: os => growOne (frm fs h.k) o (sp.getD h.l (0, 0)) late :: growL fs sp late hs os
  | _, _ => []
theorem growL_len {fs : List FormP} {sp : List Sp2} {late : Bool} : ∀ {hs : List Hold} {os : List Sp2}, os.length = hs.length → (growL fs sp late hs os).length = hs.length
  | [], [], _ => rfl
  | _ :: hs, _ :: os, h => by
    show (growL fs sp late hs os).length + 1 = hs.length + 1
    rw [growL_len (by simpa using h)]
theorem growL_at {fs : List FormP} {sp : List Sp2} {late : Bool} : ∀ {hs : List Hold} {os : List Sp2} {i : Nat} {h : Hold} {o : Sp2}, hs[i]? = some h → os[i]? = some o → (growL fs sp late hs os)[i]? = some (growOne (frm fs h.k) o (sp.getD h.l (0, 0)) late)
  | h :: hs, o :: os, 0, _, _, e1, e2 => by
    cases e1
    cases e2
    rfl
  | h :: hs, o :: os, i + 1, _, _, e1, e2 => growL_at (hs := hs) (os := os) e1 e2
inductive BoxR where
  | box (held sp : List Sp2) (r : Nat)
  | no
def downL (l : List (Option Sp2)) : List Sp2 := l.map fun o => o.getD (0, 0)
def boxF (n : NetP) (x : Sp2) (many : Nat) : Nat → List Sp2 → Nat → Option BoxR
  | 0, _, _ => none
  | f + 1, held, r =>
    if none ∈ growL n.fs (n.spans x held) (decide (many ≤ r)) n.holds held then some .no
    else if downL (growL n.fs (n.spans x held) (decide (many ≤ r)) n.holds held) = held then some (.box held (n.spans x held) r)
    else boxF n x many f (downL (growL n.fs (n.spans x held) (decide (many ≤ r)) n.holds held)) (r + 1)
/-! ### it ends -/
def muB (fs : List FormP) : List Hold → List Sp2 → Nat
  | h :: hs, o :: os => (if o = wordsOf (frm fs h.k) then 0 else 1) + muB fs hs os
  | _, _ => 0
theorem mu_le (fs : List FormP) : ∀ (hs : List Hold) (os : List Sp2), muB fs hs os ≤ hs.length
  | [], _ => Nat.le_refl _
  | _ :: _, [] => Nat.zero_le _
  | h :: hs, o :: os => by
    have := mu_le fs hs os
    show (if o = wordsOf (frm fs h.k) then 0 else 1) + muB fs hs os ≤ hs.length + 1
    split <;> omega
theorem mu_grow {fs : List FormP} {sp : List Sp2} : ∀ {hs : List Hold} {os : List Sp2}, os.length = hs.length → (∀ h ∈ hs, ∀ y, (frm fs h.k).w = some y → hasIn (wordsOf (frm fs h.k)) (sp.getD h.l (0, 0)) = true) → ¬ none ∈ growL fs sp true hs os →
    muB fs hs (downL (growL fs sp true hs os)) ≤ muB fs hs os ∧ (downL (growL fs sp true hs os) ≠ os → muB fs hs (downL (growL fs sp true hs os)) < muB fs hs os)
  | [], [], _, _, _ => ⟨Nat.le_refl _, fun h => absurd rfl h⟩
  | h :: hs, o :: os, hl, hk, hn => by
    have hn0 : growOne (frm fs h.k) o (sp.getD h.l (0, 0)) true ≠ none := fun e => hn (by
      show none ∈ growOne (frm fs h.k) o (sp.getD h.l (0, 0)) true :: growL fs sp true hs os
      rw [e]
      exact List.mem_cons_self ..)
    have hn1 : ¬ none ∈ growL fs sp true hs os := fun z => hn (List.mem_cons_of_mem _ z)
    obtain ⟨i1, i2⟩ := mu_grow (hs := hs) (os := os) (by simpa using hl) (fun h' hh => hk h' (List.mem_cons_of_mem _ hh)) hn1
    have hk0 := hk h (List.mem_cons_self ..)
    show (if ((growOne (frm fs h.k) o (sp.getD h.l (0, 0)) true).getD (0, 0)) = wordsOf (frm fs h.k) then 0 else 1) + muB fs hs (downL (growL fs sp true hs os)) ≤ (if o = wordsOf (frm fs h.k) then 0 else 1) + muB fs hs os ∧ ((growOne (frm fs h.k) o (sp.getD h.l (0, 0)) true).getD (0, 0) :: downL (growL fs sp true hs os) ≠ o :: os → (if ((growOne (frm fs h.k) o (sp.getD h.l (0, 0)) true).getD (0, 0)) = wordsOf (frm fs h.k) then 0 else 1) + muB fs hs (downL (growL fs sp true hs os)) < (if o = wordsOf (frm fs h.k) then 0 else 1) + muB fs hs os)
    by_cases c : hasIn o (sp.getD h.l (0, 0)) = true
    · have e : growOne (frm fs h.k) o (sp.getD h.l (0, 0)) true = some o := if_pos c
      rw [e]
      refine ⟨Nat.add_le_add_left i1 _, fun ne => Nat.add_lt_add_left (i2 fun z => ne ?_) _⟩
      rw [z]
      rfl
    · cases ew : (frm fs h.k).w with
      | none =>
        refine absurd ?_ hn0
        unfold growOne
        rw [if_neg c, if_neg (by decide), ew]
      | some y =>
        have e : growOne (frm fs h.k) o (sp.getD h.l (0, 0)) true = some (wordsOf (frm fs h.k)) := by
          unfold growOne
          rw [if_neg c, if_neg (by decide), ew]
        have ne : o ≠ wordsOf (frm fs h.k) := fun z => c (by rw [z]; exact hk0 y ew)
        rw [e, Option.getD_some, if_pos rfl, if_neg ne]
        exact ⟨by omega, fun _ => by omega⟩
theorem down_len {fs : List FormP} {sp : List Sp2} {late : Bool} {hs : List Hold} {os : List Sp2} (h : os.length = hs.length) : (downL (growL fs sp late hs os)).length = hs.length := by
  unfold downL
  rw [List.length_map, growL_len h]
theorem getS {l : List Sp2} {i : Nat} {s : Sp2} (h : l[i]? = some s) : l.getD i (0, 0) = s := by
  rw [List.getD_eq_getElem?_getD, h]
  rfl
theorem in_both {y v : Int} (h : inR (some y) v = true) : lst y ≤ v ∧ v ≤ grt y := by
  have h2 : (decide (lst y ≤ v) && decide (v ≤ grt y)) = true := h
  rw [Bool.and_eq_true] at h2
  exact ⟨of_decide_eq_true h2.1, of_decide_eq_true h2.2⟩
/-- a hold's row keeps within its form -/
theorem span_hold {n : NetP} (ok : NetOk n) (x : Sp2) (held : List Sp2) {h : Hold} (hm : h ∈ n.holds) {y : Int} (ew : (frm n.fs h.k).w = some y) : hasIn (wordsOf (frm n.fs h.k)) ((n.spans x held).getD h.l (0, 0)) = true := by
  obtain ⟨hf, _, b, eb⟩ := ok.ho h hm
  have e : (n.spans x held)[h.l]? = some (keepSp (frm n.fs h.k) ((accS (rowSp n.fs n.pts x held) (n.rows.take h.l)).getD b (0, 0)) (n.pts.getD b 0)) := accS_at (g := rowSp n.fs n.pts x held) eb
  rw [getS e]
  have fo : (frm n.fs h.k).Ok := by
    rw [frm_at (List.getElem?_eq_getElem hf)]
    exact ok.fo _ (List.getElem_mem _)
  have hin : ∀ v, lst y ≤ wordF (frm n.fs h.k).w (frm n.fs h.k).st v ∧ wordF (frm n.fs h.k).w (frm n.fs h.k).st v ≤ grt y := fun v => by
    have := word_in fo.wo (frm n.fs h.k).st v
    rw [ew] at this ⊢
    exact in_both this
  have e2 : wordsOf (frm n.fs h.k) = (lst y, grt y) := by
    unfold wordsOf
    rw [ew]
  unfold keepSp
  split
  · unfold hasIn
    rw [decide_eq_true (Int.le_refl _), decide_eq_true (Int.le_refl _)]
    rfl
  · unfold hasIn endW
    rw [e2, decide_eq_true (hin _).1, decide_eq_true (hin _).2]
    rfl
theorem box_late {n : NetP} (ok : NetOk n) (x : Sp2) {many : Nat} : ∀ (f r : Nat) (held : List Sp2), many ≤ r → held.length = n.holds.length → muB n.fs n.holds held < f → boxF n x many f held r ≠ none
  | 0, _, _, _, _, h => absurd h (Nat.not_lt_zero _)
  | f + 1, r, held, hr, hl, h => by
    unfold boxF
    rw [decide_eq_true hr]
    split
    · exact fun z => nomatch z
    · rename_i hn
      obtain ⟨i1, i2⟩ := mu_grow hl (fun h hm y ew => span_hold ok x held hm ew) hn
      split
      · exact fun z => nomatch z
      · rename_i hne
        have := i2 hne
        exact box_late ok x f (r + 1) _ (by omega) (down_len hl) (by omega)
theorem box_ends {n : NetP} (ok : NetOk n) (x : Sp2) {many : Nat} : ∀ (d f r : Nat) (held : List Sp2), many ≤ r + d → held.length = n.holds.length → d + 7 ≤ f → boxF n x many f held r ≠ none
  | 0, f, r, held, hr, hl, hf => box_late ok x f r held hr hl (by
    have := mu_le n.fs n.holds held
    have := ok.h2
    omega)
  | d + 1, f, r, held, hr, hl, hf => by
    obtain ⟨f, rfl⟩ : ∃ k, f = k + 1 := ⟨f - 1, by omega⟩
    unfold boxF
    split
    · exact fun z => nomatch z
    · split
      · exact fun z => nomatch z
      · exact box_ends ok x d f (r + 1) _ (by omega) (down_len hl) (by omega)
/-! ### sizes -/
def BdS (k : Nat) (l : List Sp2) : Prop := ∀ s ∈ l, s.1.natAbs < 2 ^ k ∧ s.2.natAbs < 2 ^ k
theorem BdS.get {k : Nat} {l : List Sp2} (h : BdS k l) (i : Nat) : (l.getD i (0, 0)).1.natAbs < 2 ^ k ∧ (l.getD i (0, 0)).2.natAbs < 2 ^ k := by
  rw [List.getD_eq_getElem?_getD]
  cases e : l[i]? with
  | none => exact ⟨Nat.pow_pos (by decide), Nat.pow_pos (by decide)⟩
  | some s => exact h s (List.mem_of_getElem? e)
theorem BdS.mono {k j : Nat} {l : List Sp2} (h : BdS k l) (le : k ≤ j) : BdS j l := fun s hs => ⟨up (h s hs).1 le, up (h s hs).2 le⟩
theorem min_or (a b : Int) : minI a b = a ∨ minI a b = b := by
  unfold minI
  split
  · exact .inr rfl
  · exact .inl rfl
theorem max_or (a b : Int) : maxI a b = a ∨ maxI a b = b := by
  unfold maxI
  split
  · exact .inr rfl
  · exact .inl rfl
theorem words_lt {F : FormP} (fo : F.Ok) {k : Nat} (h : 70 ≤ k) : (wordsOf F).1.natAbs < 2 ^ k ∧ (wordsOf F).2.natAbs < 2 ^ k := by
  unfold wordsOf
  cases e : F.w with
  | none => exact ⟨Nat.pow_pos (by decide), Nat.pow_pos (by decide)⟩
  | some y =>
    obtain ⟨y0, y1⟩ := fo.wo y e
    have t64 := two_lt64 y0 y1
    have tp := two_pos y
    have tq := two_pos (y - 1)
    have ts := two_succ (x := y) (by omega)
    have b1 : (2 : Nat) ^ 70 = 2 ^ 64 * 64 := by decide
    have g1 : (lst y).natAbs < 2 ^ 70 := by
      unfold lst
      rw [b1]
      generalize (2 : Nat) ^ 64 = N at *
      omega
    have g2 : (grt y).natAbs < 2 ^ 70 := by
      unfold grt
      rw [b1]
      generalize (2 : Nat) ^ 64 = N at *
      omega
    exact ⟨up g1 h, up g2 h⟩
theorem keep_lt {F : FormP} (fo : F.Ok) {s : Sp2} {p : Int} {k : Nat} (h : s.1.natAbs < 2 ^ k ∧ s.2.natAbs < 2 ^ k) (p0 : -200 ≤ p) (p1 : p ≤ 200) (l : 70 ≤ k) : (keepSp F s p).1.natAbs < 2 ^ (k + 600) ∧ (keepSp F s p).2.natAbs < 2 ^ (k + 600) := by
  have one : ∀ x : Int, x.natAbs < 2 ^ k → (endW F x p).natAbs < 2 ^ (k + 600) := fun x hx => by
    have s1 := steps_lt (m := F.m) hx fo.p0 fo.p1 p0 p1
    unfold endW
    rcases word_abs F.w F.st (stepsAt F.pt F.m x p) fo.wo with h | h
    · exact up2 h s1 (by omega)
    · exact up h (by omega)
  unfold keepSp
  split
  · exact words_lt fo (by omega)
  · exact ⟨one _ h.1, one _ h.2⟩
theorem spans_lt {n : NetP} (ok : NetOk n) {x : Sp2} {held : List Sp2} {k : Nat} (hx : x.1.natAbs < 2 ^ k ∧ x.2.natAbs < 2 ^ k) (hh : BdS k held) (l : 70 ≤ k) : ∀ i, i ≤ n.rows.length → BdS (k + 600 * i) (accS (rowSp n.fs n.pts x held) (n.rows.take i)) := by
  intro i
  induction i with
  | zero => intro _ s hs; cases hs
  | succ i ih =>
    intro hi s hs
    obtain ⟨r, er⟩ : ∃ r, n.rows[i]? = some r := ⟨_, List.getElem?_eq_getElem (by omega)⟩
    rw [accS_next er] at hs
    have ih' := ih (by omega)
    have e6 : k + 600 * (i + 1) = k + 600 * i + 600 := by omega
    rcases List.mem_append.mp hs with hs | hs
    · exact ⟨up (ih' s hs).1 (by omega), up (ih' s hs).2 (by omega)⟩
    rw [List.mem_singleton.mp hs]
    generalize accS (rowSp n.fs n.pts x held) (n.rows.take i) = acc at ih'
    have at' := ih'.get
    have pp : ∀ a, -200 ≤ n.pts.getD a 0 ∧ n.pts.getD a 0 ≤ 200 := fun a => by
      rw [List.getD_eq_getElem?_getD]
      cases e : n.pts[a]? with
      | none => exact ⟨by decide, by decide⟩
      | some k => exact ok.po k (List.mem_of_getElem? e)
    have sh : ∀ a b c (y : Int), y.natAbs < 2 ^ (k + 600 * i) → (y * 2 ^ shlP n.pts a b c).natAbs < 2 ^ (k + 600 * i + 401) := fun a b c y hy => by
      obtain ⟨a0, a1⟩ := pp a
      obtain ⟨b0, b1⟩ := pp b
      obtain ⟨c0, c1⟩ := pp c
      refine up (abs_mul_lt hy (two_pow_lt (k := shlP n.pts a b c) (n := 401) ?_)) (by omega)
      unfold shlP
      dsimp only
      split <;> omega
    have ad : ∀ {u v : Int}, u.natAbs < 2 ^ (k + 600 * i + 401) → v.natAbs < 2 ^ (k + 600 * i + 401) → (u + v).natAbs < 2 ^ (k + 600 * (i + 1)) ∧ (u - v).natAbs < 2 ^ (k + 600 * (i + 1)) := fun {u v} hu hv => by
      have h2 : (-v).natAbs < 2 ^ (k + 600 * i + 401) := by rw [Int.natAbs_neg]; exact hv
      refine ⟨up (abs_add_lt hu hv) (by omega), ?_⟩
      rw [Int.sub_eq_add_neg]
      exact up (abs_add_lt hu h2) (by omega)
    have ro := ok.ro i r er
    match r, ro with
    | .inn, _ => exact ⟨up hx.1 (by omega), up hx.2 (by omega)⟩
    | .old j, _ => exact ⟨up (hh.get j).1 (by omega), up (hh.get j).2 (by omega)⟩
    | .times f m a, h =>
      have q1 := abs_mul_lt (show f.natAbs < 2 ^ 63 from h.1) (at' a).1
      have q2 := abs_mul_lt (show f.natAbs < 2 ^ 63 from h.1) (at' a).2
      refine ⟨?_, ?_⟩
      · show (minI _ _).natAbs < _
        rcases min_or (f * (acc.getD a (0, 0)).1) (f * (acc.getD a (0, 0)).2) with e | e <;> rw [e]
        · exact up q1 (by omega)
        · exact up q2 (by omega)
      · show (maxI _ _).natAbs < _
        rcases max_or (f * (acc.getD a (0, 0)).1) (f * (acc.getD a (0, 0)).2) with e | e <;> rw [e]
        · exact up q1 (by omega)
        · exact up q2 (by omega)
    | .plus a b, _ => exact ⟨(ad (sh a b a _ (at' a).1) (sh a b b _ (at' b).1)).1, (ad (sh a b a _ (at' a).2) (sh a b b _ (at' b).2)).1⟩
    | .less a b, _ => exact ⟨(ad (sh a b a _ (at' a).1) (sh a b b _ (at' b).2)).2, (ad (sh a b a _ (at' a).2) (sh a b b _ (at' b).1)).2⟩
    | .move m a, _ => exact ⟨up (at' a).1 (by omega), up (at' a).2 (by omega)⟩
    | .keep f a, h =>
      obtain ⟨p0, p1⟩ := pp a
      have fo : (frm n.fs f).Ok := by
        rw [frm_at (List.getElem?_eq_getElem h.1)]
        exact ok.fo _ (List.getElem_mem _)
      have := keep_lt fo (at' a) p0 p1 (by omega)
      rw [e6]
      exact this
theorem spans_all {n : NetP} (ok : NetOk n) (l26 : n.rows.length ≤ 26) {x : Sp2} {held : List Sp2} {k : Nat} (hx : x.1.natAbs < 2 ^ k ∧ x.2.natAbs < 2 ^ k) (hh : BdS k held) (l : 70 ≤ k) : BdS (k + 15600) (n.spans x held) := by
  have := spans_lt ok hx hh l n.rows.length (Nat.le_refl _)
  rw [List.take_length] at this
  exact this.mono (by omega)
theorem grow_lt {n : NetP} (ok : NetOk n) {sp held : List Sp2} {late : Bool} {k : Nat} (l : 70 ≤ k) (hs : BdS k sp) (hh : BdS k held) (hl : held.length = n.holds.length) : BdS k (downL (growL n.fs sp late n.holds held)) := fun s hm => by
  obtain ⟨o, ho, rfl⟩ := List.mem_map.mp hm
  obtain ⟨i, hi⟩ := List.getElem?_of_mem ho
  have il := (List.getElem?_eq_some_iff.mp hi).1
  rw [growL_len hl] at il
  have e1 := List.getElem?_eq_getElem il
  have e2 := List.getElem?_eq_getElem (show i < held.length by omega)
  rw [growL_at e1 e2] at hi
  cases hi
  have h1 := hh _ (List.getElem_mem (show i < held.length by omega))
  have h2 := hs.get (n.holds[i]).l
  have fo : (frm n.fs (n.holds[i]).k).Ok := by
    obtain ⟨hf, _⟩ := ok.ho _ (List.getElem_mem il)
    rw [frm_at (List.getElem?_eq_getElem hf)]
    exact ok.fo _ (List.getElem_mem _)
  unfold growOne
  split
  · exact h1
  · split
    · refine ⟨?_, ?_⟩
      · show (minI _ _).natAbs < _
        rcases min_or (held[i]).1 (sp.getD (n.holds[i]).l (0, 0)).1 with e | e <;> rw [e]
        · exact h1.1
        · exact h2.1
      · show (maxI _ _).natAbs < _
        rcases max_or (held[i]).2 (sp.getD (n.holds[i]).l (0, 0)).2 with e | e <;> rw [e]
        · exact h1.2
        · exact h2.2
    · split
      · exact ⟨Nat.pow_pos (by decide), Nat.pow_pos (by decide)⟩
      · exact words_lt fo l
end E1

namespace E1
open PySem PySem.Spec PyProof.Rows L2

def spHasIn : Sp := fun vs H Q _ => ∃ (s t : Addr) (a b : Sp2), vs = [.ref s, .ref t] ∧ H s = some (.tup (spV a)) ∧ H t = some (.tup (spV b)) ∧ Q (.bl (hasIn a b)) H
def spTimesS : Sp := fun vs H Q _ => ∃ (s : Addr) (f : Int) (a : Sp2), vs = [.int f, .ref s] ∧ H s = some (.tup (spV a)) ∧ f.natAbs < 2 ^ 63 ∧ ∀ r H', Same H H' → H' r = some (.tup (spV (timesSp f a))) → Q (.ref r) H'
def spHull : Sp := fun vs H Q _ => ∃ (s t : Addr) (a b : Sp2), vs = [.ref s, .ref t] ∧ H s = some (.tup (spV a)) ∧ H t = some (.tup (spV b)) ∧ ∀ r H', Same H H' → H' r = some (.tup (spV (hullI a b))) → Q (.ref r) H'
def spSumS : Sp := fun vs H Q _ => ∃ (ra na pa : Addr) (r : Row) (a b : Nat) (ls : Bool) (nv : List V) (acc : List Sp2) (pts : List Int), vs = [.ref ra, .ref na, .ref pa] ∧ H ra = some (.tup r.vs) ∧ ((r = .plus a b ∧ ls = false) ∨ (r = .less a b ∧ ls = true)) ∧ H na = some (.lst nv) ∧ TsAt H nv (acc.map spV) ∧ H pa = some (.lst (pts.map V.int)) ∧ a < acc.length ∧ b < acc.length ∧ acc.length ≤ pts.length ∧ BdS 900000 acc ∧ (∀ p ∈ pts, -200 ≤ p ∧ p ≤ 200) ∧
  ∀ t H', Same H H' → H' t = some (.tup (spV (if ls = true then lessSp pts acc a b else sumSp pts acc a b))) → Q (.ref t) H'
def spEndsK (C : Addr) : Sp := fun vs H Q _ => ∃ (p s : Addr) (F : FormP) (a : Sp2) (x : Int), vs = [.ref p, .ref s, .int x] ∧ FAt C H p F ∧ H s = some (.tup (spV a)) ∧ -200 ≤ x ∧ x ≤ 200 ∧ a.1.natAbs < 2 ^ 900000 ∧ a.2.natAbs < 2 ^ 900000 ∧
  ∀ l t1 t2 H', Same H H' → H' l = some (.lst [.ref t1, .ref t2]) → H' t1 = some (.tup [.int (endW F a.1 x), .int (endO F a.1 x)]) → H' t2 = some (.tup [.int (endW F a.2 x), .int (endO F a.2 x)]) → Q (.ref l) H'
def spIsOver : Sp := fun vs H Q _ => ∃ (l t1 t2 : Addr) (w1 o1 w2 o2 : Int), vs = [.ref l] ∧ H l = some (.lst [.ref t1, .ref t2]) ∧ H t1 = some (.tup [.int w1, .int o1]) ∧ H t2 = some (.tup [.int w2, .int o2]) ∧ Q (.bl (!decide (o1 = 0) || !decide (o2 = 0))) H
def spAllW (C : Addr) : Sp := fun vs H Q _ => ∃ (p : Addr) (F : FormP) (y : Int), vs = [.ref p] ∧ FAt C H p F ∧ F.w = some y ∧ ∀ r H', Same H H' → H' r = some (.tup (spV (wordsOf F))) → Q (.ref r) H'
def spKeepS (C : Addr) : Sp := fun vs H Q _ => ∃ (p s : Addr) (F : FormP) (a : Sp2) (x : Int), vs = [.ref p, .ref s, .int x] ∧ FAt C H p F ∧ H s = some (.tup (spV a)) ∧ -200 ≤ x ∧ x ≤ 200 ∧ a.1.natAbs < 2 ^ 900000 ∧ a.2.natAbs < 2 ^ 900000 ∧ ∀ r H', Same H H' → H' r = some (.tup (spV (keepSp F a x))) → Q (.ref r) H'
def spRowS (C : Addr) : Sp := fun vs H Q _ => ∃ (ra na fa pa : Addr) (r : Row) (fv : List V) (fs : List FormP) (hc : Nat) (x : Sp2) (held acc : List Sp2) (nv : List V) (pts : List Int), vs = [.ref ra, .ref na, .ref fa, .ref pa] ∧ H ra = some (.tup r.vs) ∧ r.kd ≠ .inn ∧ r.kd ≠ .old ∧ H na = some (.lst nv) ∧ TsAt H nv (acc.map spV) ∧ H fa = some (.lst fv) ∧ FsAt C H fv fs ∧ H pa = some (.lst (pts.map V.int)) ∧ RowOk hc fs.length acc.length r ∧ acc.length ≤ pts.length ∧ BdS 900000 acc ∧ (∀ p ∈ pts, -200 ≤ p ∧ p ≤ 200) ∧
  ∀ t H', Same H H' → H' t = some (.tup (spV (rowSp fs pts x held acc r))) → Q (.ref t) H'
def spSweptS (C CN fR : Addr) : Sp := fun vs H Q _ => ∃ (p xa ha : Addr) (n : NetP) (x : Sp2) (held : List Sp2) (hv : List V) (k : Nat), vs = [.ref p, .ref xa, .ref ha, .ref fR] ∧ NetAt C CN H p n ∧ n.rows.length ≤ 26 ∧ H xa = some (.tup (spV x)) ∧ H ha = some (.lst hv) ∧ TsAt H hv (held.map spV) ∧ held.length = n.holds.length ∧ 70 ≤ k ∧ k + 15600 ≤ 900000 ∧ (x.1.natAbs < 2 ^ k ∧ x.2.natAbs < 2 ^ k) ∧ BdS k held ∧
  ∀ l lv H', H l = none → Same H H' → H' l = some (.lst lv) → TsAt H' lv ((n.spans x held).map spV) → Q (.ref l) H'
theorem dec_int2 {i j : Int} : decide (V.int i = V.int j) = decide (i = j) := by
  by_cases h : i = j
  · rw [decide_eq_true h, decide_eq_true (congrArg V.int h)]
  · rw [decide_eq_false h, decide_eq_false fun z => h (V.int.inj z)]
theorem no_over {F : FormP} (h : F.w = none) (s : Sp2) (p : Int) : overB F s p = false := by
  have e : ∀ x, endO F x p = 0 := fun x => by
    unfold endO
    rw [h]
    exact Int.sub_self _
  unfold overB
  rw [e, e]
  rfl
theorem spans_at {vs : List V} {G : Hp} {l : List Sp2} (t : TsAt G vs (l.map spV)) {i : Nat} (h : i < l.length) : ∃ p, vs[i]? = some (.ref p) ∧ G p = some (.tup (spV (l.getD i (0, 0)))) := by
  obtain ⟨p, e, hp⟩ := t.at (i := i) (xs := spV l[i]) (by rw [List.getElem?_map, List.getElem?_eq_getElem h]; rfl)
  exact ⟨p, e, by rw [getS (List.getElem?_eq_getElem h)]; exact hp⟩
section
variable {P : Program} {w : World} {K : PySem.W.Frag} {mg : Str → Option Value} {base : Heap}
theorem sc_has_in_it : FnScope ["stretch", "other"] ["stretch", "other"] (defScope s_has_in_it) := ⟨rfl, rfl, rfl, by decide +kernel, rfl, by decide +kernel, by decide +kernel⟩
theorem ok_has_in_it {f : Addr} {fd : FuncData} {k : Nat} (F : Fun K "has_in_it" "has_in_it" s_has_in_it f fd) : FnOk P w K mg base CX0 (k + 1) f fd ["stretch", "other"] spHasIn := by
  refine F.ok sc_has_in_it (fun vs H Q E h => ?_) (fun cdv A outer s H vs Q E hr h => ?_)
  · obtain ⟨s, t, a, b, rfl, _⟩ := h
    rfl
  · obtain ⟨s, t, a, b, rfl, hs, ht, q⟩ := h
    refine ⟨_, (pss_one (ps_ret (pe_and (pe_cmpR op_le (pe_ix ix_tup (pv 0) pe_int (fun _ _ => rfl)) (pe_ix ix_tup (pv 1) pe_int (fun _ _ => rfl)) (nomark _)) (pe_one (pe_cmpR op_le (pe_ix ix_tup (pv 1) pe_int (fun _ _ => rfl)) (pe_ix ix_tup (pv 0) pe_int (fun _ _ => rfl)) (nomark _)))))), ?_⟩
    refine ⟨_, rfl, s, _, 0, .int _, rfl, rfl, SqT.of hs, a0, _, rfl, t, _, 0, .int _, rfl, rfl, SqT.of ht, a0, _, _, rfl, rfl, ?_⟩
    unfold hasIn at q
    by_cases c : a.1 ≤ b.1
    · rw [decide_eq_true c, Bool.true_and] at q
      exact ⟨_, rfl, iteC (d := true) (decide_eq_true c) (iteT ⟨_, rfl, t, _, 1, .int _, rfl, rfl, SqT.of ht, a1, _, rfl, s, _, 1, .int _, rfl, rfl, SqT.of hs, a1, _, _, rfl, rfl, q⟩)⟩
    · rw [decide_eq_false c, Bool.false_and] at q
      exact ⟨_, rfl, iteC (d := false) (decide_eq_false c) (iteF q)⟩
theorem sc_times_stretch : FnScope ["factor", "stretch", "ends"] ["factor", "stretch"] (defScope s_times_stretch) := ⟨rfl, rfl, rfl, by decide +kernel, rfl, by decide +kernel, by decide +kernel⟩
theorem ok_times_stretch {f : Addr} {fd : FuncData} {k : Nat} (F : Fun K "times_stretch" "times_stretch" s_times_stretch f fd) (z : Zs mg) : FnOk P w K mg base CX0 (k + 1) f fd ["factor", "stretch"] spTimesS := by
  refine F.ok sc_times_stretch (fun vs H Q E h => ?_) (fun cdv A outer s H vs Q E hr h => ?_)
  · obtain ⟨s, f, a, rfl, _⟩ := h
    rfl
  · obtain ⟨s, f, a, rfl, hs, hf, q⟩ := h
    refine ⟨_, (pss_cons (ps_set (i := 2) sc_times_stretch.nd rfl (.inl rfl) (pe_lst (pa_cons (pe_op op_mul (pv 0) (pe_ix ix_tup (pv 1) pe_int (fun _ _ => rfl))) (pa_cons (pe_op op_mul (pv 0) (pe_ix ix_tup (pv 1) pe_int (fun _ _ => rfl))) pa_nil))))
      (pss_one (ps_ret (pe_tup (pa_cons (pe_callB (cr_min rfl) (by rfl) z.min (by decide +kernel) (pa_cons (pv 2) pa_nil)) (pa_cons (pe_callB (cr_max rfl) (by rfl) z.max (by decide +kernel) (pa_cons (pv 2) pa_nil)) pa_nil)))))), ?_⟩
    refine ⟨_, rfl, _, rfl, s, _, 0, .int _, rfl, rfl, SqT.of hs, a0, _, _, rfl, rfl, .inl ⟨by omega, by omega⟩, _, rfl, _, rfl, s, _, 1, .int _, rfl, rfl, SqT.of hs, a1, _, _, rfl, rfl, .inl ⟨by omega, by omega⟩, (by show 2 ≤ sizeLine; decide), fun l hl => ?_⟩
    generalize hG : upd _ l _ = G
    obtain ⟨s1, h_l⟩ := upd_gen hG hl
    replace h_l : G l = some (.lst ([f * a.1, f * a.2].map V.int)) := h_l
    refine ⟨_, rfl, l, [f * a.1, f * a.2], rfl, SqL.of h_l, (by show 0 < 2; decide), fun mn m1 m2 => ?_⟩
    refine ⟨_, rfl, l, [f * a.1, f * a.2], rfl, SqL.of h_l, (by show 0 < 2; decide), fun mx x1 x2 => ⟨(by show 2 ≤ sizeLine; decide), fun t ht => ?_⟩⟩
    generalize hG2 : upd _ t _ = G2
    obtain ⟨s2, h_t⟩ := upd_gen hG2 ht
    have e1 : mn = minI (f * a.1) (f * a.2) := by
      have u1 := m2 (f * a.1) (by simp)
      have u2 := m2 (f * a.2) (by simp)
      unfold minI
      rcases (by simpa using m1 : mn = f * a.1 ∨ mn = f * a.2) with e | e <;> split <;> omega
    have e2 : mx = maxI (f * a.1) (f * a.2) := by
      have u1 := x2 (f * a.1) (by simp)
      have u2 := x2 (f * a.2) (by simp)
      unfold maxI
      rcases (by simpa using x1 : mx = f * a.1 ∨ mx = f * a.2) with e | e <;> split <;> omega
    rw [e1, e2] at h_t
    exact q t G2 (s1.trans s2) h_t
theorem sc_hull : FnScope ["one", "other"] ["one", "other"] (defScope s_hull) := ⟨rfl, rfl, rfl, by decide +kernel, rfl, by decide +kernel, by decide +kernel⟩
theorem ok_hull {f : Addr} {fd : FuncData} {k : Nat} (F : Fun K "hull" "hull" s_hull f fd) (z : Zs mg) : FnOk P w K mg base CX0 (k + 1) f fd ["one", "other"] spHull := by
  refine F.ok sc_hull (fun vs H Q E h => ?_) (fun cdv A outer s H vs Q E hr h => ?_)
  · obtain ⟨s, t, a, b, rfl, _⟩ := h
    rfl
  · obtain ⟨s, t, a, b, rfl, hs, ht, q⟩ := h
    refine ⟨_, (pss_one (ps_ret (pe_tup (pa_cons (pe_callB (call_min2 rfl) (by rfl) z.min (by decide +kernel) (pa_cons (pe_ix ix_tup (pv 0) pe_int (fun _ _ => rfl)) (pa_cons (pe_ix ix_tup (pv 1) pe_int (fun _ _ => rfl)) pa_nil))) (pa_cons (pe_callB (call_max2 rfl) (by rfl) z.max (by decide +kernel) (pa_cons (pe_ix ix_tup (pv 0) pe_int (fun _ _ => rfl)) (pa_cons (pe_ix ix_tup (pv 1) pe_int (fun _ _ => rfl)) pa_nil))) pa_nil))))), ?_⟩
    refine ⟨_, rfl, s, _, 0, .int _, rfl, rfl, SqT.of hs, a0, _, rfl, t, _, 0, .int _, rfl, rfl, SqT.of ht, a0, _, _, rfl, _, rfl, s, _, 1, .int _, rfl, rfl, SqT.of hs, a1, _, rfl, t, _, 1, .int _, rfl, rfl, SqT.of ht, a1, _, _, rfl, (by show 2 ≤ sizeLine; decide), fun r hr => ?_⟩
    exact q r _ (same_new hr) upd_same
theorem sc_sum_stretch : FnScope ["row", "stretches", "points", "word", "one", "other", "point", "low", "high", "other_low", "other_high", "end"] ["row", "stretches", "points"] (defScope s_sum_stretch) := ⟨rfl, rfl, rfl, by decide +kernel, rfl, by decide +kernel, by decide +kernel⟩
theorem ok_sum_stretch {f : Addr} {fd : FuncData} {k : Nat} (F : Fun K "sum_stretch" "sum_stretch" s_sum_stretch f fd) (z : Zs mg) : FnOk P w K mg base CX0 (k + 1) f fd ["row", "stretches", "points"] spSumS := by
  refine F.ok sc_sum_stretch (fun vs H Q E h => ?_) (fun cdv A outer s H vs Q E hr h => ?_)
  · obtain ⟨ra, na, pa, r, a, b, ls, nv, acc, pts, rfl, _⟩ := h
    rfl
  · obtain ⟨ra, na, pa, r, a, b, ls, nv, acc, pts, rfl, hra, hr2, hna, tn, hpa, la, lb, lp, bd, hp, q⟩ := h
    refine ⟨_, (pss_cons (ps_asg (pv 0) (pg_tup (by rfl) (pgs_cons (pg_name (i := 3) sc_sum_stretch.nd rfl (.inl rfl)) (pgs_cons (pg_name (i := 4) sc_sum_stretch.nd rfl (.inr rfl)) (pgs_cons (pg_name (i := 5) sc_sum_stretch.nd rfl (.inr rfl)) pgs_nil)))))
      (pss_cons (ps_set (i := 6) sc_sum_stretch.nd rfl (.inr rfl) (pe_callB (call_max2 rfl) (by rfl) z.max (by decide +kernel) (pa_cons (pe_ix ix_list (pv 2) (pv 4) (fun _ _ => rfl)) (pa_cons (pe_ix ix_list (pv 2) (pv 5) (fun _ _ => rfl)) pa_nil))))
      (pss_cons (ps_asg (pe_lc (own := [("end", 11)]) (g := gName 11) (tt := tYes) (te := (tOp (rI CShl fun i j => V.int (i * 2 ^ j.toNat)) (tVar 11) (tOp (rI0 fun i j => V.int (i - j)) (tVar 6) (tOp (rIxL K) (tVar 2) (tVar 4))))) (by rfl) sc_sum_stretch.nd (pi_tup (pe_ix ix_list (pv 1) (pv 4) (fun _ _ => rfl))) (blkOk_by (own := [("end", 11)]) (N := ["row", "stretches", "points", "word", "one", "other", "point", "low", "high", "other_low", "other_high", "end"]) (sc := defScope s_sum_stretch) (by decide +kernel)) (fun _ _ _ _ _ => by exact (pg_name (i := 11) sc_sum_stretch.nd rfl (.inl rfl))) (fun _ _ _ _ _ => by exact pts_nil) (fun _ _ _ _ _ => by exact (pe_op op_shlW (pv 11) (pe_op op_sub (pv 6) (pe_ix ix_list (pv 2) (pv 4) (fun _ _ => rfl)))))) (pg_lst rfl (pgs_cons (pg_name (i := 7) sc_sum_stretch.nd rfl (.inl rfl)) (pgs_cons (pg_name (i := 8) sc_sum_stretch.nd rfl (.inl rfl)) pgs_nil))))
      (pss_cons (ps_asg (pe_lc (own := [("end", 11)]) (g := gName 11) (tt := tYes) (te := (tOp (rI CShl fun i j => V.int (i * 2 ^ j.toNat)) (tVar 11) (tOp (rI0 fun i j => V.int (i - j)) (tVar 6) (tOp (rIxL K) (tVar 2) (tVar 5))))) (by rfl) sc_sum_stretch.nd (pi_tup (pe_ix ix_list (pv 1) (pv 5) (fun _ _ => rfl))) (blkOk_by (own := [("end", 11)]) (N := ["row", "stretches", "points", "word", "one", "other", "point", "low", "high", "other_low", "other_high", "end"]) (sc := defScope s_sum_stretch) (by decide +kernel)) (fun _ _ _ _ _ => by exact (pg_name (i := 11) sc_sum_stretch.nd rfl (.inl rfl))) (fun _ _ _ _ _ => by exact pts_nil) (fun _ _ _ _ _ => by exact (pe_op op_shlW (pv 11) (pe_op op_sub (pv 6) (pe_ix ix_list (pv 2) (pv 5) (fun _ _ => rfl)))))) (pg_lst rfl (pgs_cons (pg_name (i := 9) sc_sum_stretch.nd rfl (.inl rfl)) (pgs_cons (pg_name (i := 10) sc_sum_stretch.nd rfl (.inl rfl)) pgs_nil))))
      (pss_cons (ps_if (pt_cmpR op_eq (pv 3) pe_str (nomark _)) (pss_one (ps_ret (pe_tup (pa_cons (pe_op op_add (pv 7) (pv 9)) (pa_cons (pe_op op_add (pv 8) (pv 10)) pa_nil))))) pss_nil)
      (pss_one (ps_ret (pe_tup (pa_cons (pe_op op_sub (pv 7) (pv 10)) (pa_cons (pe_op op_sub (pv 8) (pv 9)) pa_nil)))))))))), ?_⟩
    have la' : a < pts.length := by omega
    have lb' : b < pts.length := by omega
    have pp : ∀ c, c < pts.length → -200 ≤ pts.getD c 0 ∧ pts.getD c 0 ≤ 200 := fun c hc => hp _ (by
      rw [List.getD_eq_getElem?_getD, List.getElem?_eq_getElem hc]
      exact List.getElem_mem _)
    obtain ⟨a0, a1⟩ := pp a la'
    obtain ⟨b0, b1⟩ := pp b lb'
    have sh : ∀ y : Int, y.natAbs < 2 ^ 900000 → ∀ c, (c = a ∨ c = b) → CShl y ((if pts.getD b 0 > pts.getD a 0 then pts.getD b 0 else pts.getD a 0) - pts.getD c 0) := fun y hy c hc => by
      have e : ((if pts.getD b 0 > pts.getD a 0 then pts.getD b 0 else pts.getD a 0) - pts.getD c 0) = ((((if pts.getD b 0 > pts.getD a 0 then pts.getD b 0 else pts.getD a 0) - pts.getD c 0).toNat : Nat) : Int) := by
        rcases hc with rfl | rfl <;> split <;> omega
      rw [e]
      refine shl_ok hy ?_
      rcases hc with rfl | rfl <;> split <;> omega
    obtain ⟨qa, ea, hqa⟩ := spans_at tn la
    obtain ⟨qb, eb, hqb⟩ := spans_at tn lb
    have rf := Same.refl H
    have key : ∀ w : Str, H ra = some (.tup [.str w, .int (a : Nat), .int (b : Nat)]) → w = (if ls = true then ("less" : Str) else "plus") → True := fun _ _ _ => trivial
    obtain ⟨w, ew, hra3⟩ : ∃ w : Str, w = (if ls = true then ("less" : Str) else "plus") ∧ H ra = some (.tup [.str w, .int (a : Nat), .int (b : Nat)]) := by
      rcases hr2 with ⟨rfl, rfl⟩ | ⟨rfl, rfl⟩
      · exact ⟨_, rfl, hra⟩
      · exact ⟨_, rfl, hra⟩
    refine ⟨_, rfl, ra, _, rfl, SqT.of hra3, rfl, _, _, rfl, _, _, rfl, _, _, rfl, rfl, _, rfl, _, rfl, pa, _, _, _, rfl, rfl, SqL.of hpa, ints_at la', _, rfl, _, rfl, pa, _, _, _, rfl, rfl, SqL.of hpa, ints_at lb', _, _, rfl, ?_⟩
    refine ⟨_, rfl, _, rfl, na, _, _, .ref qa, rfl, rfl, SqL.of (rf _ _ hna), atI_nat ea, qa, rfl, ⟨_, SqT.of (rf _ _ hqa)⟩, fun Da hDa => ?_⟩
    refine lc_tup (K := K) (a := qa) (xs := spV (acc.getD a (0, 0))) (fun i G => Same H G ∧ G Da = some (.lst ((([(acc.getD a (0, 0)).1, (acc.getD a (0, 0)).2].take i).map fun y => y * 2 ^ shlP pts a b a).map V.int))) ⟨same_new hDa, upd_same⟩ (fun i G _ hP => SqT.of (hP.1 _ _ (rf _ _ hqa))) (fun i v G hi hP => ?_) (fun Ga hP => ?_)
    · obtain ⟨s5, hd⟩ := hP
      obtain ⟨y, ey, rfl, hy, i2⟩ : ∃ y, [(acc.getD a (0, 0)).1, (acc.getD a (0, 0)).2][i]? = some y ∧ v = .int y ∧ y.natAbs < 2 ^ 900000 ∧ i < 2 := by
        match i, hi with
        | 0, hi => exact ⟨_, rfl, (Option.some.inj hi).symm, (bd.get a).1, by decide⟩
        | 1, hi => exact ⟨_, rfl, (Option.some.inj hi).symm, (bd.get a).2, by decide⟩
        | i + 2, hi => cases hi
      refine ⟨rfl, _, rfl, _, rfl, _, rfl, _, rfl, pa, _, _, _, rfl, rfl, SqL.of (s5 _ _ (rf _ _ hpa)), ints_at la', _, _, rfl, rfl, _, _, rfl, rfl, sh y hy a (.inl rfl), _, hd, sl_lt (by rw [List.length_map, List.length_map, List.length_take]; show min i 2 ≤ 100000; omega), fun b' o' e' => ?_, ?_⟩
      · rw [upd_ne (ne_of_none e' hDa)]
        exact s5 _ _ e'
      · rw [upd_same, List.take_add_one, ey, List.map_append, List.map_append]
        rfl
    obtain ⟨sa, hDa'⟩ := hP
    replace hDa' : Ga Da = some (.lst [.int ((acc.getD a (0, 0)).1 * 2 ^ shlP pts a b a), .int ((acc.getD a (0, 0)).2 * 2 ^ shlP pts a b a)]) := hDa'
    refine ⟨Da, _, rfl, SqL.of hDa', rfl, _, _, rfl, _, _, rfl, rfl, ?_⟩
    refine ⟨_, rfl, _, rfl, na, _, _, .ref qb, rfl, rfl, SqL.of (sa _ _ hna), atI_nat eb, qb, rfl, ⟨_, SqT.of (sa _ _ hqb)⟩, fun Db hDb => ?_⟩
    refine lc_tup (K := K) (a := qb) (xs := spV (acc.getD b (0, 0))) (fun i G => Same Ga G ∧ G Db = some (.lst ((([(acc.getD b (0, 0)).1, (acc.getD b (0, 0)).2].take i).map fun y => y * 2 ^ shlP pts a b b).map V.int))) ⟨same_new hDb, upd_same⟩ (fun i G _ hP => SqT.of (hP.1 _ _ (sa _ _ hqb))) (fun i v G hi hP => ?_) (fun Gb hP => ?_)
    · obtain ⟨s5, hd⟩ := hP
      obtain ⟨y, ey, rfl, hy, i2⟩ : ∃ y, [(acc.getD b (0, 0)).1, (acc.getD b (0, 0)).2][i]? = some y ∧ v = .int y ∧ y.natAbs < 2 ^ 900000 ∧ i < 2 := by
        match i, hi with
        | 0, hi => exact ⟨_, rfl, (Option.some.inj hi).symm, (bd.get b).1, by decide⟩
        | 1, hi => exact ⟨_, rfl, (Option.some.inj hi).symm, (bd.get b).2, by decide⟩
        | i + 2, hi => cases hi
      refine ⟨rfl, _, rfl, _, rfl, _, rfl, _, rfl, pa, _, _, _, rfl, rfl, SqL.of (s5 _ _ (sa _ _ hpa)), ints_at lb', _, _, rfl, rfl, _, _, rfl, rfl, sh y hy b (.inr rfl), _, hd, sl_lt (by rw [List.length_map, List.length_map, List.length_take]; show min i 2 ≤ 100000; omega), fun b' o' e' => ?_, ?_⟩
      · rw [upd_ne (ne_of_none e' hDb)]
        exact s5 _ _ e'
      · rw [upd_same, List.take_add_one, ey, List.map_append, List.map_append]
        rfl
    obtain ⟨sb, hDb'⟩ := hP
    replace hDb' : Gb Db = some (.lst [.int ((acc.getD b (0, 0)).1 * 2 ^ shlP pts a b b), .int ((acc.getD b (0, 0)).2 * 2 ^ shlP pts a b b)]) := hDb'
    refine ⟨Db, _, rfl, SqL.of hDb', rfl, _, _, rfl, _, _, rfl, rfl, ?_⟩
    have S := sa.trans sb
    cases ls with
    | false =>
      refine ⟨_, rfl, rfl, _, rfl, iteC (d := true) (decide_eq_true (by rw [ew]; rfl)) (iteT ⟨_, rfl, _, rfl, _, _, rfl, rfl, _, rfl, _, rfl, _, _, rfl, rfl, (by show 2 ≤ sizeLine; decide), fun r hr => ?_⟩)⟩
      exact q r _ (S.trans (same_new hr)) upd_same
    | true =>
      refine ⟨_, rfl, rfl, _, rfl, iteC (d := false) (decide_eq_false (fun z => by rw [ew] at z; exact absurd (V.str.inj z) (by decide +kernel))) (iteF ⟨_, rfl, _, rfl, _, _, rfl, rfl, _, rfl, _, rfl, _, _, rfl, rfl, (by show 2 ≤ sizeLine; decide), fun r hr => ?_⟩)⟩
      exact q r _ (S.trans (same_new hr)) upd_same
theorem sc_ends_kept : FnScope ["form", "stretch", "point", "end"] ["form", "stretch", "point"] (defScope s_ends_kept) := ⟨rfl, rfl, rfl, by decide +kernel, rfl, by decide +kernel, by decide +kernel⟩
theorem ok_ends_kept {f : Addr} {fd : FuncData} {C : Addr} (T : FTxt K mg C) (F : Fun K "ends_kept" "ends_kept" s_ends_kept f fd) (m_kept_at : CalM P w K mg base 5 C "kept_at" ["self", "number", "point"] (spKeptAt C)) : FnOk P w K mg base CX0 6 f fd ["form", "stretch", "point"] (spEndsK C) := by
  refine F.ok sc_ends_kept (fun vs H Q E h => ?_) (fun cdv A outer s H vs Q E hr h => ?_)
  · obtain ⟨p, s, FF, a, x, rfl, _⟩ := h
    rfl
  · obtain ⟨p, s, FF, a, x, rfl, hf, hs, x0, x1, z1, z2, q⟩ := h
    refine ⟨_, (pss_one (ps_ret (pe_lc (own := [("end", 3)]) (g := gName 3) (tt := tYes) (te := tMeth C "kept_at" (spKeptAt C) [] E0 (tVar 0) (tCons (tVar 3) (tCons (tVar 2) tNil))) (by rfl) sc_ends_kept.nd (pi_tup (pv 1)) (blkOk_by (own := [("end", 3)]) (N := ["form", "stretch", "point", "end"]) (sc := defScope s_ends_kept) (by decide +kernel)) (fun _ _ _ _ _ => by exact (pg_name (i := 3) sc_ends_kept.nd rfl (.inl rfl))) (fun _ _ _ _ _ => by exact pts_nil) (fun _ _ _ _ _ => by exact (pe_calm (pv 0) T.cl m_kept_at hr (pa_cons (pv 3) (pa_cons (pv 2) pa_nil))))))), ?_⟩
    obtain ⟨dx, ho⟩ := hf.ob
    refine ⟨_, rfl, s, rfl, ⟨_, SqT.of hs⟩, fun D hD => ?_⟩
    have rows : ∀ i : Nat, ([(a.1 : Int), a.2].take i).length = min i 2 := fun i => List.length_take ..
    refine lc_tup (K := K) (a := s) (xs := spV a) (fun i G => Same H G ∧ ∃ vs, G D = some (.lst vs) ∧ TsAt G vs (([a.1, a.2].take i).map fun y => [V.int (endW FF y x), V.int (endO FF y x)])) ⟨same_new hD, [], upd_same, .nil⟩ (fun i G _ hP => SqT.of (hP.1 _ _ hs)) (fun i v G hi hP => ?_) (fun G hP => ?_)
    · obtain ⟨s5, vs, hd, tv⟩ := hP
      obtain ⟨y, ey, rfl, hy, i2⟩ : ∃ y, [a.1, a.2][i]? = some y ∧ v = .int y ∧ y.natAbs < 2 ^ 900000 ∧ i < 2 := by
        match i, hi with
        | 0, hi => exact ⟨_, rfl, (Option.some.inj hi).symm, z1, by decide⟩
        | 1, hi => exact ⟨_, rfl, (Option.some.inj hi).symm, z2, by decide⟩
        | i + 2, hi => cases hi
      have lv := tv.len
      rw [List.length_map, rows] at lv
      refine ⟨rfl, _, rfl, p, dx, _, rfl, s5 _ _ ho, fl_no (by decide +kernel), _, rfl, _, rfl, p, _, _, _, _, y, x, rfl, hf.same s5, x0, x1, hy, fun t G2 ht s6 h_t => ?_⟩
      refine ⟨_, s6 _ _ hd, sl_lt (by omega), fun b' o' e' => ?_, _, upd_same, ?_⟩
      · rw [upd_ne (ne_of_none e' hD)]
        exact s6 _ _ (s5 _ _ e')
      · rw [List.take_add_one, ey, List.map_append]
        exact TsAt.push (s6 _ _ hd) (tv.same s6) h_t
    · obtain ⟨s5, vs, hd, tv⟩ := hP
      replace tv : TsAt G vs [[V.int (endW FF a.1 x), V.int (endO FF a.1 x)], [V.int (endW FF a.2 x), V.int (endO FF a.2 x)]] := tv
      cases tv with
      | cons h1 tv =>
        cases tv with
        | cons h2 tv =>
          cases tv
          exact q D _ _ G s5 hd h1 h2
theorem sc_is_over : FnScope ["ends"] ["ends"] (defScope s_is_over) := ⟨rfl, rfl, rfl, by decide +kernel, rfl, by decide +kernel, by decide +kernel⟩
theorem ok_is_over {f : Addr} {fd : FuncData} {k : Nat} (F : Fun K "is_over" "is_over" s_is_over f fd) : FnOk P w K mg base CX0 (k + 1) f fd ["ends"] spIsOver := by
  refine F.ok sc_is_over (fun vs H Q E h => ?_) (fun cdv A outer s H vs Q E hr h => ?_)
  · obtain ⟨l, t1, t2, w1, o1, w2, o2, rfl, _⟩ := h
    rfl
  · obtain ⟨l, t1, t2, w1, o1, w2, o2, rfl, hl, h1, h2, q⟩ := h
    refine ⟨_, (pss_one (ps_ret (pe_or (pe_cmpR op_ne (pe_ix ix_tup (pe_ix ix_list (pv 0) pe_int (fun _ _ => rfl)) pe_int (fun _ _ => rfl)) pe_int (nomark _)) (pe_one (pe_cmpR op_ne (pe_ix ix_tup (pe_ix ix_list (pv 0) pe_int (fun _ _ => rfl)) pe_int (fun _ _ => rfl)) pe_int (nomark _)))))), ?_⟩
    refine ⟨_, rfl, l, _, 0, .ref t1, rfl, rfl, SqL.of hl, a0, t1, _, 1, .int _, rfl, rfl, SqT.of h1, a1, rfl, ?_⟩
    by_cases c : o1 = 0
    · refine ⟨_, rfl, iteC (d := false) (by rw [decide_eq_true (congrArg V.int c)]; rfl) (iteF ⟨_, rfl, l, _, 1, .ref t2, rfl, rfl, SqL.of hl, a1, t2, _, 1, .int _, rfl, rfl, SqT.of h2, a1, rfl, ?_⟩)⟩
      rw [decide_eq_true c, Bool.not_true, Bool.false_or] at q
      rw [dec_int2]
      exact q
    · rw [decide_eq_false c, Bool.not_false, Bool.true_or] at q
      refine ⟨_, rfl, iteC (d := true) (by rw [decide_eq_false (fun z => c (V.int.inj z))]; rfl) (iteT q)⟩
theorem sc_all_words : FnScope ["form"] ["form"] (defScope s_all_words) := ⟨rfl, rfl, rfl, by decide +kernel, rfl, by decide +kernel, by decide +kernel⟩
theorem ok_all_words {f : Addr} {fd : FuncData} {C : Addr} (T : FTxt K mg C) (F : Fun K "all_words" "all_words" s_all_words f fd) (m_least : CalM P w K mg base 1 C "least" ["self"] (spLeast C)) (m_greatest : CalM P w K mg base 1 C "greatest" ["self"] (spGreatest C)) : FnOk P w K mg base CX0 2 f fd ["form"] (spAllW C) := by
  refine F.ok sc_all_words (fun vs H Q E h => ?_) (fun cdv A outer s H vs Q E hr h => ?_)
  · obtain ⟨p, FF, y, rfl, _⟩ := h
    rfl
  · obtain ⟨p, FF, y, rfl, hf, hw, q⟩ := h
    refine ⟨_, (pss_one (ps_ret (pe_tup (pa_cons (pe_calm0 (pv 0) T.cl m_least hr) (pa_cons (pe_calm0 (pv 0) T.cl m_greatest hr) pa_nil))))), ?_⟩
    obtain ⟨dx, ho⟩ := hf.ob
    refine ⟨_, rfl, p, dx, _, rfl, ho, fl_no (by decide +kernel), p, _, _, _, _, rfl, hf, _, rfl, p, dx, _, rfl, ho, fl_no (by decide +kernel), p, _, _, _, _, rfl, hf, (by show 2 ≤ sizeLine; decide), fun r hr => ?_⟩
    refine q r _ (same_new hr) ?_
    rw [upd_same, hw]
    unfold wordsOf
    rw [hw]
    rfl
theorem sc_keep_stretch : FnScope ["form", "stretch", "point", "ends"] ["form", "stretch", "point"] (defScope s_keep_stretch) := ⟨rfl, rfl, rfl, by decide +kernel, rfl, by decide +kernel, by decide +kernel⟩
theorem ok_keep_stretch {f : Addr} {fd : FuncData} {C : Addr} (T : FTxt K mg C) (F : Fun K "keep_stretch" "keep_stretch" s_keep_stretch f fd) (c_ends_kept : Cal P w K mg base 6 "ends_kept" ["form", "stretch", "point"] (spEndsK C)) (c_is_over : Cal P w K mg base 1 "is_over" ["ends"] spIsOver) (c_all_words : Cal P w K mg base 2 "all_words" ["form"] (spAllW C)) : FnOk P w K mg base CX0 7 f fd ["form", "stretch", "point"] (spKeepS C) := by
  refine F.ok sc_keep_stretch (fun vs H Q E h => ?_) (fun cdv A outer s H vs Q E hr h => ?_)
  · obtain ⟨p, s, FF, a, x, rfl, _⟩ := h
    rfl
  · obtain ⟨p, s, FF, a, x, rfl, hf, hs, x0, x1, z1, z2, q⟩ := h
    refine ⟨_, (pss_cons (ps_set (i := 3) sc_keep_stretch.nd rfl (.inl rfl) (pe_cal c_ends_kept hr (pa_cons (pv 0) (pa_cons (pv 1) (pa_cons (pv 2) pa_nil)))))
      (pss_cons (ps_if (PW.pt (pw_and (pt_val (pe_cal c_is_over hr (pa_cons (pv 3) pa_nil))) (pw_and1 (pt_cmpR op_eq (pe_fld (pv 0) rfl) pe_str (nomark _))))) (pss_one (ps_ret (pe_cal c_all_words hr (pa_cons (pv 0) pa_nil)))) pss_nil)
      (pss_one (ps_ret (pe_tup (pa_cons (pe_ix ix_tup (pe_ix ix_list (pv 3) pe_int (fun _ _ => rfl)) pe_int (fun _ _ => rfl)) (pa_cons (pe_ix ix_tup (pe_ix ix_list (pv 3) pe_int (fun _ _ => rfl)) pe_int (fun _ _ => rfl)) pa_nil))))))), ?_⟩
    refine ⟨_, rfl, _, rfl, _, rfl, p, s, FF, a, x, rfl, hf, hs, x0, x1, z1, z2, fun l t1 t2 H1 s1 h_l h_1 h_2 => ?_⟩
    have hf1 := hf.same s1
    obtain ⟨dx, ho⟩ := hf1.ob
    have fin : ¬ (overB FF a x = true ∧ FF.st = false) → ∀ r, H1 r = none → Q (.ref r) (upd H1 r (.tup [.int (endW FF a.1 x), .int (endW FF a.2 x)])) := fun hno r hr => q r _ (s1.trans (same_new hr)) (by
      rw [upd_same]
      unfold keepSp
      rw [if_neg hno]
      rfl)
    refine ⟨_, rfl, l, t1, t2, _, _, _, _, rfl, h_l, h_1, h_2, ?_⟩
    by_cases ov : overB FF a x = true
    · refine ⟨_, rfl, iteC (d := true) ov (iteT ⟨_, rfl, p, C, dx, _, _, rfl, ho, T.cl, T.nE, fl_e, rfl, _, rfl, ?_⟩)⟩
      cases hst : FF.st with
      | false =>
        refine iteC (d := true) (decide_eq_true rfl) (iteT ?_)
        cases hw : FF.w with
        | none =>
          rw [no_over hw] at ov
          cases ov
        | some y =>
          refine ⟨_, rfl, p, FF, y, rfl, hf1, hw, fun r H' s2 h_r => q r H' (s1.trans s2) ?_⟩
          rw [h_r]
          unfold keepSp
          rw [if_pos ⟨ov, hst⟩]
      | true =>
        refine iteC (d := false) (decide_eq_false (fun z => absurd (V.str.inj z) (by decide +kernel))) (iteF ?_)
        exact ⟨_, rfl, l, _, 0, .ref t1, rfl, rfl, SqL.of h_l, a0, t1, _, 0, .int _, rfl, rfl, SqT.of h_1, a0, _, rfl, l, _, 1, .ref t2, rfl, rfl, SqL.of h_l, a1, t2, _, 0, .int _, rfl, rfl, SqT.of h_2, a0, (by show 2 ≤ sizeLine; decide), fun r hr => fin (fun z => by rw [hst] at z; exact absurd z.2 (by decide)) r hr⟩
    · refine ⟨_, rfl, iteC (d := false) (Bool.eq_false_iff.mpr ov) (iteF (iteF ?_))⟩
      exact ⟨_, rfl, l, _, 0, .ref t1, rfl, rfl, SqL.of h_l, a0, t1, _, 0, .int _, rfl, rfl, SqT.of h_1, a0, _, rfl, l, _, 1, .ref t2, rfl, rfl, SqL.of h_l, a1, t2, _, 0, .int _, rfl, rfl, SqT.of h_2, a0, (by show 2 ≤ sizeLine; decide), fun r hr => fin (fun z => ov z.1) r hr⟩
end
end E1

namespace E1
open PySem PySem.Spec PyProof.Rows L2
theorem len_txt : ∀ k : Nat, k < 201 → (toString (k : Int) : String).length ≤ 1000 := by decide +kernel
theorem VFmt.nat {k : Nat} (h : k < 201) : VFmt (.int (k : Int)) := by
  refine .inr ⟨_, rfl, ?_, len_txt k h⟩
  have h1 : ((k : Int)).natAbs = k := rfl
  rw [h1]
  refine Nat.lt_of_le_of_lt (Nat.log2_le_self k) (by omega)

def spCkEnds (C CN : Addr) : Sp := fun vs H Q _ => ∃ (p : Addr) (n : NetP) (lo hi : Int), vs = [.ref p, .int lo, .int hi] ∧ NetAt C CN H p n ∧ inR (frm n.fs n.en).w lo = true ∧ inR (frm n.fs n.en).w hi = true ∧ lo ≤ hi ∧ ∀ H', Same H H' → Q .non H'
def spWidened (C CN CM : Addr) : Sp := fun vs H Q E => ∃ (p ha sa : Addr) (n : NetP) (held sp : List Sp2) (hv sv : List V) (r many : Nat), vs = [.ref p, .ref ha, .ref sa, .int r, .int many] ∧ NetAt C CN H p n ∧ H ha = some (.lst hv) ∧ TsAt H hv (held.map spV) ∧ held.length = n.holds.length ∧ H sa = some (.lst sv) ∧ TsAt H sv (sp.map spV) ∧ sp.length = n.rows.length ∧ many ≤ 40 ∧
  (¬ none ∈ growL n.fs sp (decide (many ≤ r)) n.holds held → ∀ l lv H', H l = none → Same H H' → H' l = some (.lst lv) → TsAt H' lv ((downL (growL n.fs sp (decide (many ≤ r)) n.holds held)).map spV) → Q (.ref l) H') ∧
  (none ∈ growL n.fs sp (decide (many ≤ r)) n.holds held → ∀ H' d, Same H H' → H' d = none → E (.ref CM) (some d) (upd H' d (.xd [("many", .int (many : Nat))])))
def st2 (n : NetP) : List Sp2 := (starts n).map fun k => (k, k)
def spBox (C CN CM : Addr) : Sp := fun vs H Q E => ∃ (p : Addr) (n : NetP) (lo hi : Int) (many : Nat) (R : BoxR), vs = [.ref p, .int lo, .int hi, .int many] ∧ NetAt C CN H p n ∧ n.rows.length ≤ 26 ∧ inR (frm n.fs n.en).w lo = true ∧ inR (frm n.fs n.en).w hi = true ∧ lo ≤ hi ∧ lo.natAbs < 2 ^ 70 ∧ hi.natAbs < 2 ^ 70 ∧ 1 ≤ many ∧ many ≤ 40 ∧ (∀ k ∈ starts n, k.natAbs < 2 ^ 70) ∧ boxF n (lo, hi) many (many + 8) (st2 n) 1 = some R ∧
  (match R with
  | .box held sp r => ∀ t l1 l2 v1 v2 H', Same H H' → H l1 = none → H l2 = none → l1 ≠ l2 → H' t = some (.tup [.str "box", .ref l1, .ref l2, .int r]) → H' l1 = some (.lst v1) → TsAt H' v1 (held.map spV) → H' l2 = some (.lst v2) → TsAt H' v2 (sp.map spV) → Q (.ref t) H'
  | .no => ∀ H' d, Same H H' → H' d = none → E (.ref CM) (some d) (upd H' d (.xd [("many", .int (many : Nat))])))
section
variable {P : Program} {w : World} {K : PySem.W.Frag} {mg : Str → Option Value} {base : Heap}
theorem sc_stretch_of_row : FnScope ["row", "stretches", "forms", "points", "kind"] ["row", "stretches", "forms", "points"] (defScope s_stretch_of_row) := ⟨rfl, rfl, rfl, by decide +kernel, rfl, by decide +kernel, by decide +kernel⟩
theorem ok_stretch_of_row {f : Addr} {fd : FuncData} {C : Addr} (F : Fun K "stretch_of_row" "stretch_of_row" s_stretch_of_row f fd) (c_times_stretch : Cal P w K mg base 1 "times_stretch" ["factor", "stretch"] spTimesS) (c_keep_stretch : Cal P w K mg base 7 "keep_stretch" ["form", "stretch", "point"] (spKeepS C)) (c_sum_stretch : Cal P w K mg base 1 "sum_stretch" ["row", "stretches", "points"] spSumS) : FnOk P w K mg base CX0 8 f fd ["row", "stretches", "forms", "points"] (spRowS C) := by
  refine F.ok sc_stretch_of_row (fun vs H Q E h => ?_) (fun cdv A outer s H vs Q E hr h => ?_)
  · obtain ⟨ra, na, fa, pa, r, fv, fs, hc, x, held, acc, nv, pts, rfl, _⟩ := h
    rfl
  · obtain ⟨ra, na, fa, pa, r, fv, fs, hc, x, held, acc, nv, pts, rfl, hra, ki, ko, hna, tn, hfa, hf, hpa, hok, lp, bd, hp, q⟩ := h
    refine ⟨_, (pss_cons (ps_set (i := 4) sc_stretch_of_row.nd rfl (.inl rfl) (pe_ix ix_tup (pv 0) pe_int (fun _ _ => rfl)))
      (pss_cons (ps_if (pt_cmpR op_eq (pv 4) pe_str (nomark _)) (pss_one (ps_ret (pe_cal c_times_stretch hr (pa_cons (pe_ix ix_tup (pv 0) pe_int (fun _ _ => rfl)) (pa_cons (pe_ix ix_list (pv 1) (pe_ix ix_tup (pv 0) pe_int (fun _ _ => rfl)) (fun _ _ => rfl)) pa_nil))))) pss_nil)
      (pss_cons (ps_if (pt_cmpR op_eq (pv 4) pe_str (nomark _)) (pss_one (ps_ret (pe_ix ix_list (pv 1) (pe_ix ix_tup (pv 0) pe_int (fun _ _ => rfl)) (fun _ _ => rfl)))) pss_nil)
      (pss_cons (ps_if (pt_cmpR op_eq (pv 4) pe_str (nomark _)) (pss_one (ps_ret (pe_cal c_keep_stretch hr (pa_cons (pe_ix ix_list (pv 2) (pe_ix ix_tup (pv 0) pe_int (fun _ _ => rfl)) (fun _ _ => rfl)) (pa_cons (pe_ix ix_list (pv 1) (pe_ix ix_tup (pv 0) pe_int (fun _ _ => rfl)) (fun _ _ => rfl)) (pa_cons (pe_ix ix_list (pv 3) (pe_ix ix_tup (pv 0) pe_int (fun _ _ => rfl)) (fun _ _ => rfl)) pa_nil)))))) pss_nil)
      (pss_one (ps_ret (pe_cal c_sum_stretch hr (pa_cons (pv 0) (pa_cons (pv 1) (pa_cons (pv 3) pa_nil)))))))))), ?_⟩
    match r, ki, ko, hok, hra, q with
    | .inn, ki, _, _, _, _ => exact absurd rfl ki
    | .old _, _, ko, _, _, _ => exact absurd rfl ko
    | .times f m a, _, _, hok, hra, q =>
      obtain ⟨h1, h2, h3⟩ := hok
      obtain ⟨qa, ea, hqa⟩ := spans_at tn h3
      refine ⟨_, rfl, ra, _, 0, .str _, rfl, rfl, SqT.of hra, a0, _, rfl, rfl, _, rfl, iteC (d := true) (decide_eq_true rfl) (iteT ?_)⟩
      exact ⟨_, rfl, ra, _, 1, .int f, rfl, rfl, SqT.of hra, a1, _, rfl, _, rfl, ra, _, 3, .int a, rfl, rfl, SqT.of hra, atI_nat (j := 3) rfl, na, _, _, .ref qa, rfl, rfl, SqL.of hna, atI_nat ea, qa, f, acc.getD a (0, 0), rfl, hqa, h1, fun t H' s h_t => q t H' s h_t⟩
    | .move m a, _, _, hok, hra, q =>
      obtain ⟨h1, h2⟩ := hok
      obtain ⟨qa, ea, hqa⟩ := spans_at tn h2
      refine ⟨_, rfl, ra, _, 0, .str _, rfl, rfl, SqT.of hra, a0, _, rfl, rfl, _, rfl, iteC (d := false) (decide_eq_false (fun z => absurd (V.str.inj z) (by decide +kernel))) (iteF ⟨_, rfl, rfl, _, rfl, iteC (d := true) (decide_eq_true rfl) (iteT ?_)⟩)⟩
      exact ⟨_, rfl, _, rfl, ra, _, 2, .int a, rfl, rfl, SqT.of hra, a2, na, _, _, .ref qa, rfl, rfl, SqL.of hna, atI_nat ea, q qa _ (Same.refl _) hqa⟩
    | .keep f a, _, _, hok, hra, q =>
      obtain ⟨h1, h2⟩ := hok
      obtain ⟨qa, ea, hqa⟩ := spans_at tn h2
      obtain ⟨p, ep, fp⟩ := hf.frm h1
      have h3 : a < pts.length := by omega
      obtain ⟨p0, p1⟩ := hp (pts.getD a 0) (by
        rw [List.getD_eq_getElem?_getD, List.getElem?_eq_getElem h3]
        exact List.getElem_mem _)
      refine ⟨_, rfl, ra, _, 0, .str _, rfl, rfl, SqT.of hra, a0, _, rfl, rfl, _, rfl, iteC (d := false) (decide_eq_false (fun z => absurd (V.str.inj z) (by decide +kernel))) (iteF ⟨_, rfl, rfl, _, rfl, iteC (d := false) (decide_eq_false (fun z => absurd (V.str.inj z) (by decide +kernel))) (iteF ⟨_, rfl, rfl, _, rfl, iteC (d := true) (decide_eq_true rfl) (iteT ?_)⟩)⟩)⟩
      exact ⟨_, rfl, _, rfl, ra, _, 1, .int f, rfl, rfl, SqT.of hra, a1, fa, _, _, .ref p, rfl, rfl, SqL.of hfa, atI_nat ep, _, rfl, _, rfl, ra, _, 2, .int a, rfl, rfl, SqT.of hra, a2, na, _, _, .ref qa, rfl, rfl, SqL.of hna, atI_nat ea, _, rfl, _, rfl, ra, _, 2, .int a, rfl, rfl, SqT.of hra, a2, pa, _, _, _, rfl, rfl, SqL.of hpa, ints_at h3, p, qa, frm fs f, acc.getD a (0, 0), _, rfl, fp, hqa, p0, p1, (bd.get a).1, (bd.get a).2, fun t H' s h_t => q t H' s h_t⟩
    | .plus a b, _, _, hok, hra, q =>
      obtain ⟨h1, h2⟩ := hok
      refine ⟨_, rfl, ra, _, 0, .str _, rfl, rfl, SqT.of hra, a0, _, rfl, rfl, _, rfl, iteC (d := false) (decide_eq_false (fun z => absurd (V.str.inj z) (by decide +kernel))) (iteF ⟨_, rfl, rfl, _, rfl, iteC (d := false) (decide_eq_false (fun z => absurd (V.str.inj z) (by decide +kernel))) (iteF ⟨_, rfl, rfl, _, rfl, iteC (d := false) (decide_eq_false (fun z => absurd (V.str.inj z) (by decide +kernel))) (iteF ?_)⟩)⟩)⟩
      exact ⟨_, rfl, _, rfl, _, rfl, ra, na, pa, .plus a b, a, b, false, nv, acc, pts, rfl, hra, .inl ⟨rfl, rfl⟩, hna, tn, hpa, h1, h2, lp, bd, hp, fun t H' s h_t => q t H' s h_t⟩
    | .less a b, _, _, hok, hra, q =>
      obtain ⟨h1, h2⟩ := hok
      refine ⟨_, rfl, ra, _, 0, .str _, rfl, rfl, SqT.of hra, a0, _, rfl, rfl, _, rfl, iteC (d := false) (decide_eq_false (fun z => absurd (V.str.inj z) (by decide +kernel))) (iteF ⟨_, rfl, rfl, _, rfl, iteC (d := false) (decide_eq_false (fun z => absurd (V.str.inj z) (by decide +kernel))) (iteF ⟨_, rfl, rfl, _, rfl, iteC (d := false) (decide_eq_false (fun z => absurd (V.str.inj z) (by decide +kernel))) (iteF ?_)⟩)⟩)⟩
      exact ⟨_, rfl, _, rfl, _, rfl, ra, na, pa, .less a b, a, b, true, nv, acc, pts, rfl, hra, .inr ⟨rfl, rfl⟩, hna, tn, hpa, h1, h2, lp, bd, hp, fun t H' s h_t => q t H' s h_t⟩
theorem sc_swept : FnScope ["net", "heard", "held", "rule", "forms", "points", "done", "row"] ["net", "heard", "held", "rule"] (defScope s_swept) := ⟨rfl, rfl, rfl, by decide +kernel, rfl, by decide +kernel, by decide +kernel⟩
theorem ok_swept {f : Addr} {fd : FuncData} {C CN fR : Addr} {fdR : FuncData} (okR : FnOk P w K mg base CX0 8 fR fdR ["row", "stretches", "forms", "points"] (spRowS C)) (kR : PySem.W.keepIn K (.ref fR) = true) (bR : Binds K fdR ["row", "stretches", "forms", "points"] []) (TN : NTxt K mg CN) (F : Fun K "swept" "swept" s_swept f fd) (n_forms : CalM P w K mg base 1 CN "forms" ["self"] (spFormsM C CN)) (n_points : CalM P w K mg base 1 CN "points" ["self"] (spPtsM C CN)) (n_rows : CalM P w K mg base 1 CN "rows" ["self"] (spRowsM C CN)) : FnOk P w K mg base CX0 9 f fd ["net", "heard", "held", "rule"] (spSweptS C CN fR) := by
  refine F.ok sc_swept (fun vs H Q E h => ?_) (fun cdv A outer s H vs Q E hr h => ?_)
  · obtain ⟨p, xa, ha, n, x, held, hv, k, rfl, _⟩ := h
    rfl
  · obtain ⟨p, xa, ha, n, x, held, hv, k, rfl, hn, l26, hxa, hha, th, hls, k70, kb, zx, zh, q⟩ := h
    refine ⟨_, (pss_cons (ps_set (i := 4) sc_swept.nd rfl (.inl rfl) (pe_calm0 (pv 0) TN.cl n_forms hr))
      (pss_cons (ps_set (i := 5) sc_swept.nd rfl (.inl rfl) (pe_calm0 (pv 0) TN.cl n_points hr))
      (pss_cons (ps_set (i := 6) sc_swept.nd rfl (.inl rfl) (pe_lst pa_nil))
      (pss_cons (ps_for PassesOwn.never rfl (pi_list (pe_calm0 (pv 0) TN.cl n_rows hr)) (pg_name (i := 7) sc_swept.nd rfl (.inl rfl)) (pss_one (ps_if (pt_cmpR op_eq (pe_ix ix_tup (pv 7) pe_int (fun _ _ => rfl)) pe_str (nomark _)) (pss_one (ps_expr (pe_bm PySem.F.plainAttrs_list PySem.F.slot_list_append PySem.F.type_list_append mt_append (pv 6) (pa_cons (pv 1) pa_nil)))) (pss_one (ps_if (pt_cmpR op_eq (pe_ix ix_tup (pv 7) pe_int (fun _ _ => rfl)) pe_str (nomark _)) (pss_one (ps_expr (pe_bm PySem.F.plainAttrs_list PySem.F.slot_list_append PySem.F.type_list_append mt_append (pv 6) (pa_cons (pe_ix ix_list (pv 2) (pe_ix ix_tup (pv 7) pe_int (fun _ _ => rfl)) (fun _ _ => rfl)) pa_nil)))) (pss_one (ps_expr (pe_bm PySem.F.plainAttrs_list PySem.F.slot_list_append PySem.F.type_list_append mt_append (pv 6) (pa_cons (pe_callL (i := 3) okR hr rfl (Or.inl rfl) kR bR .nil pass0 (pa_cons (pv 7) (pa_cons (pv 6) (pa_cons (pv 4) (pa_cons (pv 5) pa_nil))))) pa_nil)))))))))
      (pss_one (ps_ret (pv 6))))))), ?_⟩
    obtain ⟨ok, dx, fl, rl, hl, pl, fv, rv, hv0, b⟩ := id hn
    refine ⟨_, rfl, p, dx, _, rfl, b.ob, nl_no (by decide +kernel), p, n, rfl, hn, fun fl2 fv2 H1 hf1 s1 h_fl2 hff => ?_⟩
    refine ⟨_, rfl, p, dx, _, rfl, s1 _ _ b.ob, nl_no (by decide +kernel), p, n, rfl, hn.same s1, fun pl2 H2 hp2 s2 h_pl2 => ?_⟩
    refine ⟨(by show 0 ≤ sizeLine; decide), fun dl hdl => ?_⟩
    generalize hG : upd _ dl _ = H3
    obtain ⟨s3, h_dl⟩ := upd_gen hG hdl
    have S3 := (s1.trans s2).trans s3
    have hd0 : H dl = none := (s1.trans s2).free hdl
    refine ⟨_, rfl, p, dx, _, rfl, S3 _ _ b.ob, nl_no (by decide +kernel), p, n, rfl, hn.same S3, fun rl2 rv2 H4 hr4 s4 h_rl2 hrr => ?_⟩
    have S4 := S3.trans s4
    have ndf : fl2 ≠ dl := ne_of_none (s2 _ _ h_fl2) hdl
    have ndp : pl2 ≠ dl := ne_of_none h_pl2 hdl
    have ndh : ha ≠ dl := ne_of_none hha hd0
    have nrd : rl2 ≠ dl := (ne_of_none h_dl hr4).symm
    replace h_dl := s4 _ _ h_dl
    replace h_fl2 := s4 _ _ (s3 _ _ (s2 _ _ h_fl2))
    replace h_pl2 := s4 _ _ (s3 _ _ h_pl2)
    replace hff := hff.same ((s2.trans s3).trans s4)
    have ll := hrr.len
    rw [List.length_map] at ll
    have hl60 := ok.r2
    have lpt := pts_len n
    refine ⟨rl2, rfl, ⟨_, SqL.of h_rl2⟩, ?_⟩
    refine for_it (walk_list (K := K) (a := rl2) (xs := rv2)) (fun i σ G => ∃ (y : Option V) (lv : List V), σ = [some (.ref p), some (.ref xa), some (.ref ha), some (.ref fR), some (.ref fl2), some (.ref pl2), some (.ref dl), y] ∧ SameBut dl H4 G ∧ G dl = some (.lst lv) ∧ TsAt G lv ((accS (rowSp n.fs n.pts x held) (n.rows.take i)).map spV)) ⟨none, [], rfl, SameBut.refl _ _, h_dl, .nil⟩ (fun i σ G hi hP => ?_) (fun i v σ G G' hi hP hY => ?_) (fun σ G hP => ?_)
    · obtain ⟨y, lv, rfl, B, _⟩ := hP
      exact SqL.of (B _ _ nrd h_rl2)
    · obtain ⟨y, lv, rfl, B, hd, tl⟩ := hP
      obtain ⟨rfl, hx⟩ := hY
      obtain ⟨rp, xs, rfl, ex, hrp⟩ := hrr.get hx
      rw [List.getElem?_map] at ex
      obtain ⟨r, er, rfl⟩ := Option.map_eq_some_iff.mp ex
      have il := (List.getElem?_eq_some_iff.mp er).1
      replace hrp := B _ _ (ne_of hrp h_dl (fun z => nomatch z)) hrp
      have la : (accS (rowSp n.fs n.pts x held) (n.rows.take i)).length = i := by
        rw [accS_len _ _ _ rfl, List.length_take]
        omega
      have nx := accS_next (g := rowSp n.fs n.pts x held) er
      have lvl := tl.len
      rw [List.length_map, la] at lvl
      have small : lv.length < sizeLine := sl_lt (by omega)
      have step : ∀ (t : Addr) (G2 : Hp), Same G' G2 → G2 t = some (.tup (spV (rowSp n.fs n.pts x held (accS (rowSp n.fs n.pts x held) (n.rows.take i)) r))) → ∃ (y : Option V) (lv' : List V), [some (V.ref p), some (.ref xa), some (.ref ha), some (.ref fR), some (.ref fl2), some (.ref pl2), some (.ref dl), some (.ref rp)] = [some (.ref p), some (.ref xa), some (.ref ha), some (.ref fR), some (.ref fl2), some (.ref pl2), some (.ref dl), y] ∧ SameBut dl H4 (upd G2 dl (.lst (lv ++ [.ref t]))) ∧ (upd G2 dl (.lst (lv ++ [.ref t]))) dl = some (.lst lv') ∧ TsAt (upd G2 dl (.lst (lv ++ [.ref t]))) lv' ((accS (rowSp n.fs n.pts x held) (n.rows.take (i + 1))).map spV) := fun t G2 s h_t => by
        refine ⟨_, _, rfl, (B.trans (.of s)).trans SameBut.upd, upd_same, ?_⟩
        rw [nx, List.map_append]
        exact TsAt.push (s _ _ hd) (tl.same s) h_t
      refine ⟨_, rfl, rp, _, 0, .str r.kd.s, rfl, rfl, SqT.of hrp, atI_nat (j := 0) r.vs0, rfl, _, rfl, ?_⟩
      by_cases k1 : r.kd = .inn
      · refine iteC (d := true) (by rw [k1]; exact decide_eq_true rfl) (iteT ?_)
        have hxa2 := B _ _ (ne_of (S4 _ _ hxa) h_dl (fun z => nomatch z)) (S4 _ _ hxa)
        match r, k1, step with
        | .inn, _, step => exact ⟨_, rfl, .inl ⟨rfl, _, SqL.of hd⟩, _, rfl, dl, _, _, rfl, rfl, hd, small, step xa _ (Same.refl _) hxa2⟩
      refine iteC (d := false) (decide_eq_false (fun z => kd_ne _ _ k1 (V.str.inj z))) (iteF ?_)
      refine ⟨_, rfl, rp, _, 0, .str r.kd.s, rfl, rfl, SqT.of hrp, atI_nat (j := 0) r.vs0, rfl, _, rfl, ?_⟩
      by_cases k2 : r.kd = .old
      · refine iteC (d := true) (by rw [k2]; exact decide_eq_true rfl) (iteT ?_)
        have hha2 := B _ _ ndh (S4 _ _ hha)
        have th2 := (th.same S4).but B h_dl
        match r, k2, step, hrp, ok.ro i r er with
        | .old k, _, step, hrp, hk =>
          have hk' : k < held.length := by rw [hls]; exact hk
          obtain ⟨qo, eo, hqo⟩ := spans_at th2 hk'
          exact ⟨_, rfl, .inl ⟨rfl, _, SqL.of hd⟩, _, rfl, _, rfl, rp, _, 1, .int k, rfl, rfl, SqT.of hrp, a1, ha, _, _, _, rfl, rfl, SqL.of hha2, atI_nat eo, dl, _, _, rfl, rfl, hd, small, step qo _ (Same.refl _) hqo⟩
      refine iteC (d := false) (decide_eq_false (fun z => kd_ne _ _ k2 (V.str.inj z))) (iteF ?_)
      have bdi := (spans_lt ok zx zh k70 i (by omega)).mono (j := 900000) (by omega)
      refine ⟨_, rfl, .inl ⟨rfl, _, SqL.of hd⟩, rfl, _, rfl, _, rfl, _, rfl, _, rfl, rp, dl, fl2, pl2, r, fv2, n.fs, n.holds.length, x, held, _, lv, n.pts, rfl, hrp, k1, k2, hd, tl, B _ _ ndf h_fl2, hff.butL B h_dl, B _ _ ndp h_pl2, by rw [la]; exact ok.ro i r er, by omega, bdi, ok.po, fun t G2 s h_t => ?_⟩
      exact ⟨dl, _, _, rfl, rfl, s _ _ hd, small, step t _ s h_t⟩
    · obtain ⟨y, lv, rfl, B, hd, tl⟩ := hP
      rw [ll, List.take_length] at tl
      exact ⟨_, rfl, q dl lv _ hd0 (same_but S4 B hd0) hd tl⟩
theorem sc_check_ends : FnScope ["net", "low", "high", "form"] ["net", "low", "high"] (defScope s_check_ends) := ⟨rfl, rfl, rfl, by decide +kernel, rfl, by decide +kernel, by decide +kernel⟩
theorem ok_check_ends {f : Addr} {fd : FuncData} {C CN : Addr} (T : FTxt K mg C) (F : Fun K "check_ends" "check_ends" s_check_ends f fd) (c_enter_form : Cal P w K mg base 2 "enter_form" ["net"] (spEnterForm C CN)) (m_has : CalM P w K mg base 2 C "has" ["self", "thing"] (spHas K C)) : FnOk P w K mg base CX0 3 f fd ["net", "low", "high"] (spCkEnds C CN) := by
  refine F.ok sc_check_ends (fun vs H Q E h => ?_) (fun cdv A outer s H vs Q E hr h => ?_)
  · obtain ⟨p, n, lo, hi, rfl, _⟩ := h
    rfl
  · obtain ⟨p, n, lo, hi, rfl, hn, i1, i2, le, q⟩ := h
    refine ⟨_, (pss_cons (ps_set (i := 3) sc_check_ends.nd rfl (.inl rfl) (pe_cal c_enter_form hr (pa_cons (pv 0) pa_nil)))
      (pss_one (ps_if (PW.pt (pw_or (pt_not (pt_val (pe_calm (pv 3) T.cl m_has hr (pa_cons (pv 1) pa_nil)))) (pw_or (pt_not (pt_val (pe_calm (pv 3) T.cl m_has hr (pa_cons (pv 2) pa_nil)))) (pw_or1 (pt_cmpR op_gt (pv 1) (pv 2) (nomark _)))))) (pss_one ps_never) pss_nil))), ?_⟩
    refine ⟨_, rfl, p, n, rfl, hn, fun p2 H1 s1 hf => ?_⟩
    obtain ⟨dx2, ho2⟩ := hf.ob
    refine ⟨_, rfl, p2, dx2, _, rfl, ho2, fl_no (by decide +kernel), _, rfl, p2, _, _, _, _, .int lo, _, rfl, hf, .inl ⟨lo, rfl, rfl⟩, _, rfl, ?_⟩
    rw [i1]
    refine iteF ⟨_, rfl, p2, dx2, _, rfl, ho2, fl_no (by decide +kernel), _, rfl, p2, _, _, _, _, .int hi, _, rfl, hf, .inl ⟨hi, rfl, rfl⟩, _, rfl, ?_⟩
    rw [i2]
    exact iteF ⟨_, rfl, _, rfl, _, _, rfl, rfl, _, rfl, iteC (d := false) (decide_eq_false (by omega)) (iteF (q _ s1))⟩
theorem sc_widened : FnScope ["net", "held", "stretches", "rounds", "many", "forms", "told", "hold", "own", "form"] ["net", "held", "stretches", "rounds", "many"] (defScope s_widened) := ⟨rfl, rfl, rfl, by decide +kernel, rfl, by decide +kernel, by decide +kernel⟩
theorem ok_widened {f : Addr} {fd : FuncData} {C CN CM fI : Addr} (T : FTxt K mg C) (EC : PySem.ErrX.ErrC K mg "TooMany" CM) (IO : PySem.ErrX.IniOk P w K mg CM fI "many") (TN : NTxt K mg CN) (F : Fun K "widened" "widened" s_widened f fd) (z : Zs mg) (n_forms : CalM P w K mg base 1 CN "forms" ["self"] (spFormsM C CN)) (n_holds : CalM P w K mg base 1 CN "holds" ["self"] (spHoldsM C CN)) (c_has_in_it : Cal P w K mg base 1 "has_in_it" ["stretch", "other"] spHasIn) (c_hull : Cal P w K mg base 1 "hull" ["one", "other"] spHull) (c_all_words : Cal P w K mg base 2 "all_words" ["form"] (spAllW C)) : FnOk P w K mg base (L2.CX P w) 3 f fd ["net", "held", "stretches", "rounds", "many"] (spWidened C CN CM) := by
  refine F.okX sc_widened (fun vs H Q E h => ?_) (fun cdv A outer s H vs Q E hr h => ?_)
  · obtain ⟨p, ha, sa, n, held, sp, hv, sv, r, many, rfl, _⟩ := h
    rfl
  · obtain ⟨p, ha, sa, n, held, sp, hv, sv, r, many, rfl, hn, hha, th, hls, hsa, ts, hsl, m40, qg, qb⟩ := h
    refine ⟨_, (pss_cons (ps_set (i := 5) sc_widened.nd rfl (.inl rfl) (pe_calm0 (pv 0) TN.cl n_forms hr))
      (pss_cons (ps_set (i := 6) sc_widened.nd rfl (.inl rfl) (pe_lst pa_nil))
      (pss_cons (ps_for (passes_of rfl) rfl (RZ.pi_zipA (by rfl) z.zip (pa_cons (pe_calm0 (pv 0) TN.cl n_holds hr) (pa_cons (pv 1) pa_nil))) (pg_tup (by rfl) (pgs_cons (pg_name (i := 7) sc_widened.nd rfl (.inl rfl)) (pgs_cons (pg_name (i := 8) sc_widened.nd rfl (.inl rfl)) pgs_nil))) (pss_cons (ps_set (i := 9) sc_widened.nd rfl (.inl rfl) (pe_ix ix_list (pv 5) (pe_ix ix_tup (pv 7) pe_int (fun _ _ => rfl)) (fun _ _ => rfl)))
      (pss_one (ps_if (pt_val (pe_cal c_has_in_it hr (pa_cons (pv 8) (pa_cons (pe_ix ix_list (pv 2) (pe_ix ix_tup (pv 7) pe_int (fun _ _ => rfl)) (fun _ _ => rfl)) pa_nil)))) (pss_one (ps_expr (pe_bm PySem.F.plainAttrs_list PySem.F.slot_list_append PySem.F.type_list_append mt_append (pv 6) (pa_cons (pv 8) pa_nil)))) (pss_one (ps_if (pt_cmpR op_lt (pv 3) (pv 4) (nomark _)) (pss_one (ps_expr (pe_bm PySem.F.plainAttrs_list PySem.F.slot_list_append PySem.F.type_list_append mt_append (pv 6) (pa_cons (pe_cal c_hull hr (pa_cons (pv 8) (pa_cons (pe_ix ix_list (pv 2) (pe_ix ix_tup (pv 7) pe_int (fun _ _ => rfl)) (fun _ _ => rfl)) pa_nil))) pa_nil)))) (pss_one (ps_if (pt_cmpR op_isN (pe_fld (pv 9) rfl) pe_non (nomark _)) (pss_one (ps_raiseErr rfl EC IO hr (takes_of rfl rfl rfl rfl) (by exact (pa_cons (pv 4) pa_nil)))) (pss_one (ps_expr (pe_bm PySem.F.plainAttrs_list PySem.F.slot_list_append PySem.F.type_list_append mt_append (pv 6) (pa_cons (pe_cal c_all_words hr (pa_cons (pv 9) pa_nil)) pa_nil))))))))))))
      (pss_one (ps_ret (pv 6)))))), ?_⟩
    obtain ⟨ok, dx, fl, rl, hl, pl, fv, rv, hv0, b⟩ := id hn
    refine ⟨_, rfl, p, dx, _, rfl, b.ob, nl_no (by decide +kernel), p, n, rfl, hn, fun fl2 fv2 H1 hf1 s1 h_fl2 hff => ?_⟩
    refine ⟨(by show 0 ≤ sizeLine; decide), fun tl htl => ?_⟩
    generalize hG : upd _ tl _ = H2
    obtain ⟨s2, h_tl⟩ := upd_gen hG htl
    have S2 := s1.trans s2
    have ht0 : H tl = none := s1.free htl
    refine ⟨_, rfl, p, dx, _, rfl, S2 _ _ b.ob, nl_no (by decide +kernel), p, n, rfl, hn.same S2, fun hl2 hv2 H3 hh3 s3 h_hl2 hhh => ?_⟩
    have S3 := S2.trans s3
    have nfl : fl2 ≠ tl := ne_of_none h_fl2 htl
    have nhl : hl2 ≠ tl := (ne_of_none h_tl hh3).symm
    have nsa : sa ≠ tl := ne_of_none hsa ht0
    have nha : ha ≠ tl := ne_of_none hha ht0
    replace h_tl := s3 _ _ h_tl
    replace h_fl2 := s3 _ _ (s2 _ _ h_fl2)
    replace hff := hff.same (s2.trans s3)
    have gl : (growL n.fs sp (decide (many ≤ r)) n.holds held).length = n.holds.length := growL_len hls
    have h6 := ok.h2
    have lhh := hhh.len
    have lth := th.len
    rw [List.length_map] at lhh lth
    refine ⟨_, rfl, hl2, ha, _, _, rfl, .inl ⟨SqL.of h_hl2, SqL.of (S3 _ _ hha), ?_⟩⟩
    refine for_it (walk_zip (K := K) (a := hl2) (b := ha) (xs := hv2) (ys := hv) rfl) (fun i σ G => ∃ (y7 y8 y9 : Option V) (lv : List V), σ = [some (.ref p), some (.ref ha), some (.ref sa), some (.int (r : Nat)), some (.int (many : Nat)), some (.ref fl2), some (.ref tl), y7, y8, y9] ∧ SameBut tl H3 G ∧ G tl = some (.lst lv) ∧ TsAt G lv ((downL ((growL n.fs sp (decide (many ≤ r)) n.holds held).take i)).map spV) ∧ ¬ none ∈ (growL n.fs sp (decide (many ≤ r)) n.holds held).take i) ⟨none, none, none, [], rfl, SameBut.refl _ _, h_tl, .nil, fun z => nomatch z⟩ (fun i σ G _ hP => ?_) (fun i v3 σ G0 G' hi hP hY => ?_) (fun σ G hP => ?_)
    · obtain ⟨y7, y8, y9, lv, rfl, B, _⟩ := hP
      exact ⟨SqL.of (B _ _ nhl h_hl2), SqL.of (B _ _ nha (S3 _ _ hha))⟩
    · obtain ⟨y7, y8, y9, lv, rfl, B, hd, tlv, nn⟩ := hP
      obtain ⟨Tp, u, v, rfl, nT, rfl, e1, e2⟩ := hY
      replace e1 : hv2[i]? = some u := e1
      replace e2 : hv[i]? = some v := e2
      obtain ⟨hp, xs, rfl, ex, hhp⟩ := hhh.get e1
      obtain ⟨op, ys, rfl, ey, hop⟩ := th.get e2
      rw [List.getElem?_map] at ex ey
      obtain ⟨hh, eh, rfl⟩ := Option.map_eq_some_iff.mp ex
      obtain ⟨og, eo, rfl⟩ := Option.map_eq_some_iff.mp ey
      have il := (List.getElem?_eq_some_iff.mp eh).1
      obtain ⟨kl, _, xb, exb⟩ := ok.ho hh (List.mem_of_getElem? eh)
      have ll : hh.l < sp.length := by
        have := (List.getElem?_eq_some_iff.mp exb).1
        omega
      have sN := same_new (o := .tup [.ref hp, .ref op]) nT
      have B2 : SameBut tl H3 (upd G0 Tp (.tup [.ref hp, .ref op])) := B.trans (.of sN)
      have hT : (upd G0 Tp (.tup [.ref hp, .ref op])) Tp = some (.tup [.ref hp, .ref op]) := upd_same
      replace hd := sN _ _ hd
      replace tlv := tlv.same sN
      generalize upd G0 Tp (.tup [.ref hp, .ref op]) = G2 at B2 hT hd tlv ⊢
      clear B sN
      have hhp2 := B2 _ _ (ne_of hhp h_tl (fun z => nomatch z)) hhp
      have hop2 := B2 _ _ (ne_of (S3 _ _ hop) h_tl (fun z => nomatch z)) (S3 _ _ hop)
      have hff2 := hff.butL B2 h_tl
      obtain ⟨q1, eq1, f1⟩ := hff2.frm kl
      obtain ⟨qs, es, hqs⟩ := spans_at ts ll
      have hqs2 := B2 _ _ (ne_of (S3 _ _ hqs) h_tl (fun z => nomatch z)) (S3 _ _ hqs)
      have hsa2 := B2 _ _ nsa (S3 _ _ hsa)
      have hfl2 := B2 _ _ nfl h_fl2
      have SH : Same H G2 := same_but S3 B2 ht0
      have lvl := tlv.len
      have lt6 : ((growL n.fs sp (decide (many ≤ r)) n.holds held).take i).length = i := by
        rw [List.length_take]
        omega
      rw [List.length_map] at lvl
      unfold downL at lvl
      rw [List.length_map, lt6] at lvl
      have small : lv.length < sizeLine := sl_lt (by omega)
      have ga := growL_at (fs := n.fs) (sp := sp) (late := decide (many ≤ r)) eh eo
      have fin : ∀ (t : Addr) (G3 : Hp) (s : Sp2), Same G2 G3 → G3 t = some (.tup (spV s)) → (growL n.fs sp (decide (many ≤ r)) n.holds held)[i]? = some (some s) → ∃ (y7 y8 y9 : Option V) (lv' : List V), [some (V.ref p), some (.ref ha), some (.ref sa), some (.int (r : Nat)), some (.int (many : Nat)), some (.ref fl2), some (.ref tl), some (.ref hp), some (.ref op), some (.ref q1)] = [some (.ref p), some (.ref ha), some (.ref sa), some (.int (r : Nat)), some (.int (many : Nat)), some (.ref fl2), some (.ref tl), y7, y8, y9] ∧ SameBut tl H3 (upd G3 tl (.lst (lv ++ [.ref t]))) ∧ (upd G3 tl (.lst (lv ++ [.ref t]))) tl = some (.lst lv') ∧ TsAt (upd G3 tl (.lst (lv ++ [.ref t]))) lv' ((downL ((growL n.fs sp (decide (many ≤ r)) n.holds held).take (i + 1))).map spV) ∧ ¬ none ∈ (growL n.fs sp (decide (many ≤ r)) n.holds held).take (i + 1) := fun t G3 s sg h_t eg => by
        refine ⟨_, _, _, _, rfl, (B2.trans (.of sg)).trans SameBut.upd, upd_same, ?_, ?_⟩
        · rw [List.take_add_one, eg]
          unfold downL
          rw [List.map_append, List.map_append]
          exact TsAt.push (sg _ _ hd) (tlv.same sg) h_t
        · rw [List.take_add_one, eg]
          intro z
          rcases List.mem_append.mp z with z | z
          · exact nn z
          · exact nomatch List.mem_singleton.mp z
      refine ⟨Tp, [.ref hp, .ref op], rfl, SqT.of hT, rfl, _, _, rfl, _, _, rfl, rfl, ?_⟩
      refine ⟨_, rfl, _, rfl, hp, _, 0, .int hh.k, rfl, rfl, SqT.of hhp2, a0, fl2, _, _, .ref q1, rfl, rfl, SqL.of hfl2, atI_nat eq1, ?_⟩
      refine ⟨_, rfl, _, rfl, _, rfl, hp, _, 2, .int hh.l, rfl, rfl, SqT.of hhp2, a2, sa, _, _, .ref qs, rfl, rfl, SqL.of hsa2, atI_nat es, op, qs, og, sp.getD hh.l (0, 0), rfl, hop2, hqs2, _, rfl, ?_⟩
      by_cases c : hasIn og (sp.getD hh.l (0, 0)) = true
      · refine iteC (d := true) c (iteT ?_)
        refine ⟨_, rfl, .inl ⟨rfl, _, SqL.of hd⟩, _, rfl, tl, _, _, rfl, rfl, hd, small, fin op G2 og (Same.refl _) hop2 ?_⟩
        rw [ga]
        exact congrArg some (if_pos c)
      · refine iteC (d := false) (Bool.eq_false_iff.mpr c) (iteF ?_)
        refine ⟨_, rfl, _, rfl, _, _, rfl, rfl, _, rfl, ite2 (fun c2 => ?_) (fun c2 => ?_)⟩
        · have lt : (r : Int) < (many : Int) := toB c2
          have late : decide (many ≤ r) = false := decide_eq_false (by omega)
          refine ⟨_, rfl, .inl ⟨rfl, _, SqL.of hd⟩, _, rfl, _, rfl, _, rfl, hp, _, 2, .int hh.l, rfl, rfl, SqT.of hhp2, a2, sa, _, _, .ref qs, rfl, rfl, SqL.of hsa2, atI_nat es, op, qs, og, sp.getD hh.l (0, 0), rfl, hop2, hqs2, fun t G3 sg h_t => ?_⟩
          refine ⟨tl, _, _, rfl, rfl, sg _ _ hd, small, fin t G3 _ sg h_t ?_⟩
          rw [ga]
          unfold growOne
          rw [if_neg c, if_pos late]
        · have lt : ¬ (r : Int) < (many : Int) := toNB c2
          have late : ¬ decide (many ≤ r) = false := by
            rw [decide_eq_true (show many ≤ r by omega)]
            decide
          obtain ⟨dxq, hoq⟩ := f1.ob
          refine ⟨_, rfl, q1, C, dxq, _, _, rfl, hoq, T.cl, T.nW, fl_w, rfl, _, rfl, ?_⟩
          cases ew : (frm n.fs hh.k).w with
          | none =>
            refine iteT ⟨_, rfl, _, rfl, VFmt.nat (by omega), fun d hd2 => qb ?_ G2 d SH hd2⟩
            refine List.mem_of_getElem? (i := i) ?_
            rw [ga]
            unfold growOne
            rw [if_neg c, if_neg late, ew]
          | some y =>
            refine iteF ⟨_, rfl, .inl ⟨rfl, _, SqL.of hd⟩, _, rfl, q1, frm n.fs hh.k, y, rfl, f1, ew, fun t G3 sg h_t => ?_⟩
            refine ⟨tl, _, _, rfl, rfl, sg _ _ hd, small, fin t G3 _ sg h_t ?_⟩
            rw [ga]
            unfold growOne
            rw [if_neg c, if_neg late, ew]
    · obtain ⟨y7, y8, y9, lv, rfl, B, hd, tlv, nn⟩ := hP
      have em : min hv2.length hv.length = (growL n.fs sp (decide (many ≤ r)) n.holds held).length := by omega
      rw [em, List.take_length] at tlv nn
      exact ⟨_, rfl, qg nn tl lv G ht0 (same_but S3 B ht0) hd tlv⟩
end
end E1

namespace E1
open PySem PySem.Spec PyProof.Rows L2

/-- stretches as data -/
def spD (p : Sp2) : PyData := .tuple [.int p.1, .int p.2]
theorem sp_lay : ∀ l : List Sp2, PyData.canLayAll0 (l.map spD) = true
  | [] => rfl
  | _ :: l => by simp [PyData.canLayAll0, PyData.canLay0, spD, sp_lay l]
theorem sp_deep : ∀ l : List Sp2, PyData.depthAll (l.map spD) ≤ 1
  | [] => by simp [PyData.depthAll]
  | _ :: l => by
    have := sp_deep l
    simp [PyData.depthAll, PyData.depth, spD] at *
    omega
theorem sp_shaped (l : List Sp2) : SeqAt.shaped (.list (l.map spD)) = true := by
  have := sp_deep l
  unfold SeqAt.shaped
  rw [show PyData.canLay0 (.list (l.map spD)) = PyData.canLayAll0 (l.map spD) from by simp [PyData.canLay0], sp_lay, Bool.true_and, decide_eq_true_eq]
  simp only [PyData.depth]
  omega
theorem dp_sp {K : PySem.W.Frag} {H : Hp} {vs : List V} {l : List Sp2} (h : TsAt H vs (l.map spV)) : DpAll K H vs (l.map spD) := by
  generalize e : l.map spV = xss at h
  induction h generalizing l with
  | nil =>
    cases l with
    | nil => exact .nil
    | cons _ _ => cases e
  | cons hp _ ih =>
    cases l with
    | nil => cases e
    | cons p l =>
      cases e
      exact .cons (.tup (SqT.of hp) (.cons (.int _) (.cons (.int _) .nil))) (ih rfl)
theorem eqv_spD (a b : Sp2) : PyData.eqv (spD a) (spD b) = decide (a = b) := by
  obtain ⟨a1, a2⟩ := a
  obtain ⟨b1, b2⟩ := b
  rw [Bool.eq_iff_iff]
  simp [spD, PyData.eqv, PyData.eqvAll, Prod.ext_iff]
theorem eqv_sps : ∀ a b : List Sp2, PyData.eqvAll (a.map spD) (b.map spD) = decide (a = b)
  | [], [] => by simp [PyData.eqvAll]
  | [], _ :: _ => by simp [PyData.eqvAll]
  | _ :: _, [] => by simp [PyData.eqvAll]
  | x :: a, y :: b => by
    rw [List.map_cons, List.map_cons, PyData.eqvAll, eqv_spD, eqv_sps a b, Bool.eq_iff_iff]
    simp
theorem eqv_spl (a b : List Sp2) : PyData.eqv (.list (a.map spD)) (.list (b.map spD)) = decide (a = b) := by
  rw [← eqv_sps]
  simp [PyData.eqv]
theorem st2_len (n : NetP) : (st2 n).length = n.holds.length := by
  unfold st2 starts
  rw [List.length_map, List.length_map]
theorem st2_bd {n : NetP} (h : ∀ k ∈ starts n, k.natAbs < 2 ^ 70) : BdS 70 (st2 n) := fun s hs => by
  obtain ⟨k, hk, rfl⟩ := List.mem_map.mp hs
  exact ⟨h k hk, h k hk⟩
section
variable {P : Program} {w : World} {K : PySem.W.Frag} {mg : Str → Option Value} {base : Heap}
theorem sc_box : FnScope ["net", "low", "high", "many", "held", "rounds", "stretches", "wider", "word"] ["net", "low", "high", "many"] (defScope s_box) := ⟨rfl, rfl, rfl, by decide +kernel, rfl, by decide +kernel, by decide +kernel⟩
theorem ok_box {f : Addr} {fd : FuncData} {C CN CM fR : Addr} {tkR : Tok} (g_MOST_ROUNDS : mg "MOST_ROUNDS" = some (.int 40 tkR)) (gR : mg "stretch_of_row" = some (.ref fR)) (TN : NTxt K mg CN) {dvs : List V} (F : FunD K "box" "box" (defArgs s_box) (defBody s_box) (defScope s_box) dvs [] f fd) (z : Zs mg) (n_start : CalM P w K mg base 1 CN "start" ["self"] (spStartM C CN)) (c_check_ends : Cal P w K mg base 3 "check_ends" ["net", "low", "high"] (spCkEnds C CN)) (c_is_whole : Cal P w K mg base 1 "is_whole" ["thing"] (spWhole K)) (c_swept : Cal P w K mg base 9 "swept" ["net", "heard", "held", "rule"] (spSweptS C CN fR)) (c_widened : CalX P w K mg base 3 "widened" ["net", "held", "stretches", "rounds", "many"] [] (spWidened C CN CM)) : FnOk P w K mg base (L2.CX P w) 10 f fd ["net", "low", "high", "many"] (spBox C CN CM) := by
  refine F.ok sc_box (fun vs H Q E h => ?_) (fun cdv A outer s H vs Q E hr h => ?_)
  · obtain ⟨p, n, lo, hi, many, R, rfl, _⟩ := h
    rfl
  · obtain ⟨p, n, lo, hi, many, R, rfl, hn, l26, i1, i2, le, z1, z2, m1, m40, zst, hb, q⟩ := h
    refine ⟨_, (pss_cons (ps_expr (pe_cal c_check_ends hr (pa_cons (pv 0) (pa_cons (pv 1) (pa_cons (pv 2) pa_nil)))))
      (pss_cons (ps_if (PW.pt (pw_or (pt_not (pt_val (pe_cal c_is_whole hr (pa_cons (pv 3) pa_nil)))) (pw_or1 (pt_not (pt_chain op_le op_le pe_int (pv 3) (pe_glob (v := .int 40) (by rfl) g_MOST_ROUNDS ⟨_, rfl⟩)))))) (pss_one ps_never) pss_nil)
      (pss_cons (ps_setLc (i := 4) (own := [("word", 8)]) (g := gName 8) (tt := tYes) (te := (tTup (tCons (tVar 8) (tCons (tVar 8) tNil)))) (by rfl) sc_box.nd rfl rfl (sw_true rfl rfl rfl (by decide +kernel)) (pi_tup (pe_calm0 (pv 0) TN.cl n_start hr)) (blkOk_by (own := [("word", 8)]) (N := ["net", "low", "high", "many", "held", "rounds", "stretches", "wider", "word"]) (sc := defScope s_box) (by decide +kernel)) (fun _ _ _ _ _ => by exact (pg_name (i := 8) sc_box.nd rfl (.inl rfl))) (fun _ _ _ _ _ => by exact pts_nil) (fun _ _ _ _ _ => by exact (pe_tup (pa_cons (pv 8) (pa_cons (pv 8) pa_nil)))))
      (pss_cons (ps_set (i := 5) sc_box.nd rfl (.inl rfl) pe_int)
      (pss_one (ps_while (passes_of rfl) (pt_val pe_bl) (pss_cons (ps_set (i := 6) sc_box.nd rfl (.inl rfl) (pe_cal c_swept hr (pa_cons (pv 0) (pa_cons (pe_tup (pa_cons (pv 1) (pa_cons (pv 2) pa_nil))) (pa_cons (pv 4) (pa_cons (pe_glob (v := .ref fR) (by rfl) gR rfl) pa_nil))))))
      (pss_cons (ps_set (i := 7) sc_box.nd rfl (.inl rfl) (pe_calxS c_widened hr (takes_of rfl rfl rfl rfl) (pa_cons (pv 0) (pa_cons (pv 4) (pa_cons (pv 6) (pa_cons (pv 5) (pa_cons (pv 3) pa_nil)))))))
      (pss_cons (ps_if (pt_cmpR (op_eqD hr.units) (pv 7) (pv 4) (nomark _)) (pss_one (ps_ret (pe_tup (pa_cons pe_str (pa_cons (pv 4) (pa_cons (pv 6) (pa_cons (pv 5) pa_nil))))))) pss_nil)
      (pss_cons (ps_set (i := 4) sc_box.nd rfl (.inl rfl) (pv 7))
      (pss_one (ps_aug (i := 5) sc_box.nd rfl (.inl rfl) pe_int ip_add)))))))))))), ?_⟩
    refine ⟨_, rfl, _, rfl, _, rfl, p, n, lo, hi, rfl, hn, i1, i2, le, fun H1 s1 => ?_⟩
    refine ⟨_, rfl, _, true, rfl, .int _, _, rfl, iteF ?_⟩
    refine ⟨_, rfl, _, _, rfl, rfl, _, rfl, iteC (d := true) (decide_eq_true (by omega)) (iteT ⟨_, _, rfl, rfl, _, rfl, iteC (d := false) (by rw [decide_eq_true (show (many : Int) ≤ 40 by omega)]; rfl) (iteF ?_)⟩)⟩
    have hn1 := hn.same s1
    obtain ⟨ok, dx, _, _, _, _, _, _, _, b⟩ := id hn1
    refine ⟨_, rfl, p, dx, _, rfl, b.ob, nl_no (by decide +kernel), p, n, rfl, hn1, fun t0 H2 t00 s2 h_t0 => ⟨t0, rfl, ⟨_, SqT.of h_t0⟩, fun D hD => ?_⟩⟩
    have h6 := ok.h2
    have ls : (starts n).length = n.holds.length := List.length_map ..
    refine lc_tup (K := K) (a := t0) (xs := (starts n).map V.int) (fun i G => Same H2 G ∧ ∃ vs, G D = some (.lst vs) ∧ TsAt G vs (((st2 n).take i).map spV)) ⟨same_new hD, [], upd_same, .nil⟩ (fun i G _ hP => SqT.of (hP.1 _ _ h_t0)) (fun i v G hi hP => ?_) (fun G3 hP => ?_)
    · obtain ⟨s5, vs, hd, tv⟩ := hP
      rw [List.getElem?_map] at hi
      obtain ⟨k, ek, rfl⟩ := Option.map_eq_some_iff.mp hi
      have il := (List.getElem?_eq_some_iff.mp ek).1
      have lv := tv.len
      rw [List.length_map, List.length_take, st2_len] at lv
      have e2 : (st2 n)[i]? = some (k, k) := by
        unfold st2
        rw [List.getElem?_map, ek]
        rfl
      refine ⟨rfl, _, rfl, _, rfl, (by show 2 ≤ sizeLine; decide), fun p2 hp2 => ?_⟩
      generalize hG5 : upd _ p2 _ = G5
      obtain ⟨s6, h_p2⟩ := upd_gen hG5 hp2
      refine ⟨vs, s6 _ _ hd, sl_lt (by omega), fun b' o' e' => ?_, _, upd_same, ?_⟩
      · rw [upd_ne (ne_of_none e' hD)]
        exact s6 _ _ (s5 _ _ e')
      · rw [List.take_add_one, e2, List.map_append]
        exact TsAt.push (s6 _ _ hd) (tv.same s6) h_p2
    obtain ⟨s5, hv0, h_D, tv0⟩ := hP
    rw [List.length_map, ls, ← st2_len, List.take_length] at tv0
    have S3 : Same H G3 := s1.trans (s2.trans s5)
    have hD0 : H D = none := (s1.trans s2).free hD
    clear s5 s2 h_t0 hD
    dsimp only [gName, tSeq, tAsg, tC]
    refine while_by (fun σ G => ∃ (hl : Addr) (held : List Sp2) (hv : List V) (r : Nat) (y6 y7 : Option V), σ = [some (.ref p), some (.int lo), some (.int hi), some (.int (many : Nat)), some (.ref hl), some (.int (r : Nat)), y6, y7, none] ∧ Same H G ∧ H hl = none ∧ G hl = some (.lst hv) ∧ TsAt G hv (held.map spV) ∧ held.length = n.holds.length ∧ 1 ≤ r ∧ BdS (70 + 15600 * r) held ∧ boxF n (lo, hi) many (many + 9 - r) held r = some R)
      (fun σ _ => match σ with | [_, _, _, _, _, some (.int r), _, _, _] => (100 - r).toNat | _ => 0) ⟨D, st2 n, hv0, 1, none, none, rfl, S3, hD0, h_D, tv0, st2_len n, Nat.le_refl _, (st2_bd zst).mono (by omega), hb⟩ (fun σ G hP => ?_) (fun σ H Q Q' m hh => ?_)
    rotate_left
    · obtain ⟨k, e, hq⟩ := hh
      exact ⟨k, e, m _ _ hq⟩
    obtain ⟨hl, held, hv, r, y6, y7, rfl, S, hl0, h_hl, th, hls, r1, bdh, hbr⟩ := hP
    obtain ⟨f', ef⟩ : ∃ f', many + 9 - r = f' + 1 := by
      cases e : many + 9 - r with
      | zero =>
        rw [e] at hbr
        cases hbr
      | succ f' => exact ⟨f', rfl⟩
    have r49 : r ≤ 48 := by omega
    rw [ef] at hbr
    unfold boxF at hbr
    have hnG := hn.same S
    refine ⟨_, rfl, iteT ?_⟩
    refine ⟨_, rfl, _, rfl, _, rfl, (by show 2 ≤ sizeLine; decide), fun xa hxa => ?_⟩
    generalize hGx : upd _ xa _ = G4
    obtain ⟨s4, h_xa⟩ := upd_gen hGx hxa
    refine ⟨_, rfl, p, xa, hl, n, (lo, hi), held, hv, 70 + 15600 * r, rfl, hnG.same s4, l26, h_xa, s4 _ _ h_hl, th.same s4, hls, by omega, by omega, ⟨up z1 (by omega), up z2 (by omega)⟩, bdh, fun sl sv G5 sl0 s5 h_sl tsl => ?_⟩
    have S45 := s4.trans s5
    have h_hl5 := S45 _ _ h_hl
    have th5 := th.same S45
    refine ⟨_, rfl, _, rfl, _, rfl, _, rfl, _, rfl, p, hl, sl, n, held, n.spans (lo, hi) held, hv, sv, r, many, rfl, hnG.same S45, h_hl5, th5, hls, h_sl, tsl, spans_len n _ _, m40, fun hnn wl wv G6 wl0 s6 h_wl twl => ?_, fun hno => ?_⟩
    · rw [if_neg hnn] at hbr
      have S6 := S.trans (S45.trans s6)
      refine ⟨_, rfl, _, rfl, .list ((downL (growL n.fs (n.spans (lo, hi) held) (decide (many ≤ r)) n.holds held)).map spD), .list (held.map spD), .lst (SqL.of h_wl) (dp_sp twl), .lst (SqL.of (s6 _ _ h_hl5)) (dp_sp (th5.same s6)), sp_shaped _, sp_shaped _, ?_⟩
      rw [eqv_spl]
      by_cases e : downL (growL n.fs (n.spans (lo, hi) held) (decide (many ≤ r)) n.holds held) = held
      · rw [if_pos e] at hbr
        cases hbr
        refine ⟨_, rfl, iteC (d := true) (decide_eq_true e) (iteT ⟨_, rfl, _, rfl, _, rfl, (by show 4 ≤ sizeLine; decide), fun t ht => ?_⟩)⟩
        generalize hGt : upd _ t _ = G7
        obtain ⟨s7, h_t⟩ := upd_gen hGt ht
        have s67 := s6.trans s7
        exact q t hl sl hv sv G7 (S6.trans s7) hl0 ((S.trans s4).free sl0) (ne_of_none (s4 _ _ h_hl) sl0) h_t (s67 _ _ h_hl5) (th5.same s67) (s67 _ _ h_sl) (tsl.same s67)
      · rw [if_neg e] at hbr
        refine ⟨_, rfl, iteC (d := false) (decide_eq_false e) (iteF ⟨_, rfl, _, rfl, _, _, rfl, rfl, ?_, ?_⟩)⟩
        · have er : (r : Int) + 1 = ((r + 1 : Nat) : Int) := by omega
          have ok' := hn.1
          refine ⟨wl, downL (growL n.fs (n.spans (lo, hi) held) (decide (many ≤ r)) n.holds held), wv, r + 1, _, _, by rw [← er]; rfl, S6, (S.trans S45).free wl0, h_wl, twl, down_len hls, by omega, ?_, ?_⟩
          · have bs := spans_all ok' l26 (x := (lo, hi)) (held := held) (k := 70 + 15600 * r) ⟨up z1 (by omega), up z2 (by omega)⟩ bdh (by omega)
            exact (grow_lt ok' (by omega) bs (bdh.mono (by omega)) hls).mono (by omega)
          · rw [show many + 9 - (r + 1) = f' by omega]
            exact hbr
        · show (100 - ((r : Int) + 1)).toNat < (100 - (r : Int)).toNat
          omega
    · rw [if_pos hno] at hbr
      cases hbr
      exact fun H' d s hd => q H' d (S.trans (S45.trans s)) hd
end
end E1

namespace E1
open PySem PySem.Spec PyProof.Rows L2

theorem iteY {c : Bool} {P Y : Prop} (y : Y) (p : Y → c = true → P) : if c = true then P else Y := by
  cases c
  · exact y
  · exact p y rfl
theorem two_mm {ns : List Int} {a b : Int} (hp : ns.Perm [a, b]) (hs : ns.Pairwise (· ≤ ·)) : ns = [minI a b, maxI a b] := by
  have l := hp.length_eq
  match ns, l, hp, hs with
  | [f, g], _, hp, hs =>
    have le : f ≤ g := by
      rw [List.pairwise_cons] at hs
      exact hs.1 g (.head _)
    have hf : f = a ∨ f = b := by simpa using hp.mem_iff.mp (List.Mem.head _)
    have key : (f = a ∧ g = b) ∨ (f = b ∧ g = a) := by
      rcases hf with rfl | rfl
      · have h2 := (List.perm_cons f).mp hp
        exact .inl ⟨rfl, by simpa using h2.mem_iff.mp (List.Mem.head _)⟩
      · have h2 := (List.perm_cons f).mp (hp.trans (List.Perm.swap f a []))
        exact .inr ⟨rfl, by simpa using h2.mem_iff.mp (List.Mem.head _)⟩
    unfold minI maxI
    rcases key with ⟨rfl, rfl⟩ | ⟨rfl, rfl⟩
    · congr 1
      · split <;> omega
      · congr 1
        split <;> omega
    · congr 1
      · split <;> omega
      · congr 1
        split <;> omega
theorem nb_t {i : Int} (h : i = 0) : (!decide (V.int i = V.int 0)) = false := by
  rw [decide_eq_true (congrArg V.int h)]
  rfl
theorem nb_f {i : Int} (h : ¬ i = 0) : (!decide (V.int i = V.int 0)) = true := by
  rw [decide_eq_false fun z => h (V.int.inj z)]
  rfl
theorem mulW_ok {v k : Int} (hv : v.natAbs < 2 ^ 900000) (hk : k ≤ 1000) : CMulW v (1 * 2 ^ k.toNat) := by
  rw [Int.one_mul]
  exact wide_mul hv (two_pow_lt (n := 1001) (by omega)) (by omega) (by omega) (by omega)
def spLSumS : Sp := fun vs H Q _ => ∃ (ra na pa : Addr) (r : Row) (a b : Nat) (ls : Bool) (nv : List V) (acc : List Sp2) (pts : List Int), vs = [.ref pa, .ref ra, .ref na] ∧ H ra = some (.tup r.vs) ∧ ((r = .plus a b ∧ ls = false) ∨ (r = .less a b ∧ ls = true)) ∧ H na = some (.lst nv) ∧ TsAt H nv (acc.map spV) ∧ H pa = some (.lst (pts.map V.int)) ∧ a < acc.length ∧ b < acc.length ∧ acc.length ≤ pts.length ∧ BdS 900000 acc ∧ (∀ p ∈ pts, -200 ≤ p ∧ p ≤ 200) ∧
  ∀ t H', Same H H' → H' t = some (.tup (spV (if ls = true then lessSp pts acc a b else sumSp pts acc a b))) → Q (.ref t) H'
def spLKeepS : Sp := fun vs H Q _ => ∃ (p s : Addr) (F : FormP) (a : Sp2) (x : Int), vs = [.ref p, .int x, .ref s] ∧ H p = some (.tup F.vs) ∧ F.Ok ∧ H s = some (.tup (spV a)) ∧ -200 ≤ x ∧ x ≤ 200 ∧ a.1.natAbs < 2 ^ 900000 ∧ a.2.natAbs < 2 ^ 900000 ∧ ∀ r H', Same H H' → H' r = some (.tup [.int (keepSp F a x).1, .int (keepSp F a x).2, .bl (overB F a x)]) → Q (.ref r) H'
def spLStr : Sp := fun vs H Q _ => ∃ (hp pa xa ha : Addr) (n : NetP) (x : Sp2) (held : List Sp2) (hv : List V) (k : Nat), vs = [.ref hp, .ref pa, .ref xa, .ref ha] ∧ PartsAt H hp n ∧ NetOk n ∧ n.rows.length ≤ 26 ∧ H pa = some (.lst (n.pts.map V.int)) ∧ H xa = some (.tup (spV x)) ∧ H ha = some (.lst hv) ∧ TsAt H hv (held.map spV) ∧ held.length = n.holds.length ∧ 70 ≤ k ∧ k + 15600 ≤ 900000 ∧ (x.1.natAbs < 2 ^ k ∧ x.2.natAbs < 2 ^ k) ∧ BdS k held ∧
  ∀ l lv H', H l = none → Same H H' → H' l = some (.lst lv) → TsAt H' lv ((n.spans x held).map spV) → Q (.ref l) H'
section
variable {P : Program} {w : World} {K : PySem.W.Frag} {mg : Str → Option Value} {base : Heap}
theorem sc__law_sum : FnScope ["_law_points_here", "_law_row_here", "_law_found", "_law_point", "_law_one", "_law_other", "_law_end"] ["_law_points_here", "_law_row_here", "_law_found"] (defScope s__law_sum) := ⟨rfl, rfl, rfl, by decide +kernel, rfl, by decide +kernel, by decide +kernel⟩
theorem ok__law_sum {f : Addr} {fd : FuncData} {k : Nat} (F : Fun K "_law_sum" "_law_sum" s__law_sum f fd) (z : Zs mg) : FnOk P w K mg base CX0 (k + 1) f fd ["_law_points_here", "_law_row_here", "_law_found"] spLSumS := by
  refine F.ok sc__law_sum (fun vs H Q E h => ?_) (fun cdv A outer s H vs Q E hr h => ?_)
  · obtain ⟨ra, na, pa, r, a, b, ls, nv, acc, pts, rfl, _⟩ := h
    rfl
  · obtain ⟨ra, na, pa, r, a, b, ls, nv, acc, pts, rfl, hra, hr2, hna, tn, hpa, la, lb, lp, bd, hp, q⟩ := h
    refine ⟨_, (pss_cons (ps_set (i := 3) sc__law_sum.nd rfl (.inr rfl) (pe_callB (call_max2 rfl) (by rfl) z.max (by decide +kernel) (pa_cons (pe_ix ix_list (pv 0) (pe_ix ix_tup (pv 1) pe_int (fun _ _ => rfl)) (fun _ _ => rfl)) (pa_cons (pe_ix ix_list (pv 0) (pe_ix ix_tup (pv 1) pe_int (fun _ _ => rfl)) (fun _ _ => rfl)) pa_nil))))
      (pss_cons (ps_setLc (i := 4) (own := [("_law_end", 6)]) (g := gName 6) (tt := tYes) (te := (tOp (rI CMulW fun i j => V.int (i * j)) (tVar 6) (tOp (rI CShl fun i j => V.int (i * 2 ^ j.toNat)) (tC (.int 1)) (tOp (rI0 fun i j => V.int (i - j)) (tVar 3) (tOp (rIxL K) (tVar 0) (tOp (rIxT K) (tVar 1) (tC (.int 1)))))))) (by rfl) sc__law_sum.nd rfl rfl (sw_true rfl rfl rfl (by decide +kernel)) (pi_tup (pe_ix ix_list (pv 2) (pe_ix ix_tup (pv 1) pe_int (fun _ _ => rfl)) (fun _ _ => rfl))) (blkOk_by (own := [("_law_end", 6)]) (N := ["_law_points_here", "_law_row_here", "_law_found", "_law_point", "_law_one", "_law_other", "_law_end"]) (sc := defScope s__law_sum) (by decide +kernel)) (fun _ _ _ _ _ => by exact (pg_name (i := 6) sc__law_sum.nd rfl (.inl rfl))) (fun _ _ _ _ _ => by exact pts_nil) (fun _ _ _ _ _ => by exact (pe_op op_mulW (pv 6) (pe_op op_shlW pe_int (pe_op op_sub (pv 3) (pe_ix ix_list (pv 0) (pe_ix ix_tup (pv 1) pe_int (fun _ _ => rfl)) (fun _ _ => rfl)))))))
      (pss_cons (ps_setLc (i := 5) (own := [("_law_end", 6)]) (g := gName 6) (tt := tYes) (te := (tOp (rI CMulW fun i j => V.int (i * j)) (tVar 6) (tOp (rI CShl fun i j => V.int (i * 2 ^ j.toNat)) (tC (.int 1)) (tOp (rI0 fun i j => V.int (i - j)) (tVar 3) (tOp (rIxL K) (tVar 0) (tOp (rIxT K) (tVar 1) (tC (.int 2)))))))) (by rfl) sc__law_sum.nd rfl rfl (sw_true rfl rfl rfl (by decide +kernel)) (pi_tup (pe_ix ix_list (pv 2) (pe_ix ix_tup (pv 1) pe_int (fun _ _ => rfl)) (fun _ _ => rfl))) (blkOk_by (own := [("_law_end", 6)]) (N := ["_law_points_here", "_law_row_here", "_law_found", "_law_point", "_law_one", "_law_other", "_law_end"]) (sc := defScope s__law_sum) (by decide +kernel)) (fun _ _ _ _ _ => by exact (pg_name (i := 6) sc__law_sum.nd rfl (.inl rfl))) (fun _ _ _ _ _ => by exact pts_nil) (fun _ _ _ _ _ => by exact (pe_op op_mulW (pv 6) (pe_op op_shlW pe_int (pe_op op_sub (pv 3) (pe_ix ix_list (pv 0) (pe_ix ix_tup (pv 1) pe_int (fun _ _ => rfl)) (fun _ _ => rfl)))))))
      (pss_cons (ps_if (pt_cmpR op_eq (pe_ix ix_tup (pv 1) pe_int (fun _ _ => rfl)) pe_str (nomark _)) (pss_one (ps_ret (pe_tup (pa_cons (pe_op op_sub (pe_ix ix_list (pv 4) pe_int (fun _ _ => rfl)) (pe_ix ix_list (pv 5) pe_int (fun _ _ => rfl))) (pa_cons (pe_op op_sub (pe_ix ix_list (pv 4) pe_int (fun _ _ => rfl)) (pe_ix ix_list (pv 5) pe_int (fun _ _ => rfl))) pa_nil))))) pss_nil)
      (pss_one (ps_ret (pe_tup (pa_cons (pe_op op_add (pe_ix ix_list (pv 4) pe_int (fun _ _ => rfl)) (pe_ix ix_list (pv 5) pe_int (fun _ _ => rfl))) (pa_cons (pe_op op_add (pe_ix ix_list (pv 4) pe_int (fun _ _ => rfl)) (pe_ix ix_list (pv 5) pe_int (fun _ _ => rfl))) pa_nil))))))))), ?_⟩
    have la' : a < pts.length := by omega
    have lb' : b < pts.length := by omega
    have pp : ∀ c, c < pts.length → -200 ≤ pts.getD c 0 ∧ pts.getD c 0 ≤ 200 := fun c hc => hp _ (by
      rw [List.getD_eq_getElem?_getD, List.getElem?_eq_getElem hc]
      exact List.getElem_mem _)
    obtain ⟨pa0, pa1⟩ := pp a la'
    obtain ⟨pb0, pb1⟩ := pp b lb'
    have mx : ∀ c, (c = a ∨ c = b) → (if pts.getD b 0 > pts.getD a 0 then pts.getD b 0 else pts.getD a 0) - pts.getD c 0 ≤ 1000 := fun c hc => by
      rcases hc with rfl | rfl <;> split <;> omega
    have sh : ∀ c, (c = a ∨ c = b) → CShl 1 ((if pts.getD b 0 > pts.getD a 0 then pts.getD b 0 else pts.getD a 0) - pts.getD c 0) := fun c hc => by
      have e : ((if pts.getD b 0 > pts.getD a 0 then pts.getD b 0 else pts.getD a 0) - pts.getD c 0) = ((((if pts.getD b 0 > pts.getD a 0 then pts.getD b 0 else pts.getD a 0) - pts.getD c 0).toNat : Nat) : Int) := by
        rcases hc with rfl | rfl <;> split <;> omega
      rw [e]
      refine shl_ok (n := 1) (by decide) ?_
      rcases hc with rfl | rfl <;> split <;> omega
    obtain ⟨qa, ea, hqa⟩ := spans_at tn la
    obtain ⟨qb, eb, hqb⟩ := spans_at tn lb
    have rf := Same.refl H
    obtain ⟨w, ew, hra3⟩ : ∃ w : Str, w = (if ls = true then ("less" : Str) else "plus") ∧ H ra = some (.tup [.str w, .int (a : Nat), .int (b : Nat)]) := by
      rcases hr2 with ⟨rfl, rfl⟩ | ⟨rfl, rfl⟩
      · exact ⟨_, rfl, hra⟩
      · exact ⟨_, rfl, hra⟩
    refine ⟨_, rfl, _, rfl, ra, _, 1, .int _, rfl, rfl, SqT.of hra3, a1, pa, _, _, _, rfl, rfl, SqL.of hpa, ints_at la', _, rfl, _, rfl, ra, _, 2, .int _, rfl, rfl, SqT.of hra3, a2, pa, _, _, _, rfl, rfl, SqL.of hpa, ints_at lb', _, _, rfl, ?_⟩
    refine ⟨_, rfl, _, rfl, ra, _, 1, .int _, rfl, rfl, SqT.of (rf _ _ hra3), a1, na, _, _, .ref qa, rfl, rfl, SqL.of (rf _ _ hna), atI_nat ea, qa, rfl, ⟨_, SqT.of (rf _ _ hqa)⟩, fun Da hDa => ?_⟩
    refine lc_tup (K := K) (a := qa) (xs := spV (acc.getD a (0, 0))) (fun i G => Same H G ∧ G Da = some (.lst ((([(acc.getD a (0, 0)).1, (acc.getD a (0, 0)).2].take i).map fun y => y * 2 ^ shlP pts a b a).map V.int))) ⟨same_new hDa, upd_same⟩ (fun i G _ hP => SqT.of (hP.1 _ _ (rf _ _ hqa))) (fun i v G hi hP => ?_) (fun Ga hP => ?_)
    · obtain ⟨s5, hd⟩ := hP
      obtain ⟨y, ey, rfl, hy, i2⟩ : ∃ y, [(acc.getD a (0, 0)).1, (acc.getD a (0, 0)).2][i]? = some y ∧ v = .int y ∧ y.natAbs < 2 ^ 900000 ∧ i < 2 := by
        match i, hi with
        | 0, hi => exact ⟨_, rfl, (Option.some.inj hi).symm, (bd.get a).1, by decide⟩
        | 1, hi => exact ⟨_, rfl, (Option.some.inj hi).symm, (bd.get a).2, by decide⟩
        | i + 2, hi => cases hi
      have s6 := Same.trans rf s5
      refine ⟨rfl, _, rfl, _, rfl, _, rfl, _, rfl, ra, _, 1, .int _, rfl, rfl, SqT.of (s6 _ _ hra3), a1, pa, _, _, _, rfl, rfl, SqL.of (s6 _ _ hpa), ints_at la', _, _, rfl, rfl, _, _, rfl, rfl, sh a (.inl rfl), _, _, rfl, rfl, mulW_ok hy (mx a (.inl rfl)), _, hd, sl_lt (by rw [List.length_map, List.length_map, List.length_take]; show min i 2 ≤ 100000; omega), fun b' o' e' => ?_, ?_⟩
      · rw [upd_ne (ne_of_none e' hDa)]
        exact s5 _ _ e'
      · rw [upd_same, List.take_add_one, ey, List.map_append, List.map_append, ← Int.one_mul (2 ^ shlP pts a b a)]
        rfl
    obtain ⟨sa, hDa'⟩ := hP
    replace hDa' : Ga Da = some (.lst [.int ((acc.getD a (0, 0)).1 * 2 ^ shlP pts a b a), .int ((acc.getD a (0, 0)).2 * 2 ^ shlP pts a b a)]) := hDa'
    refine ⟨_, rfl, _, rfl, ra, _, 2, .int _, rfl, rfl, SqT.of (sa _ _ hra3), a2, na, _, _, .ref qb, rfl, rfl, SqL.of (sa _ _ hna), atI_nat eb, qb, rfl, ⟨_, SqT.of (sa _ _ hqb)⟩, fun Db hDb => ?_⟩
    refine lc_tup (K := K) (a := qb) (xs := spV (acc.getD b (0, 0))) (fun i G => Same Ga G ∧ G Db = some (.lst ((([(acc.getD b (0, 0)).1, (acc.getD b (0, 0)).2].take i).map fun y => y * 2 ^ shlP pts a b b).map V.int))) ⟨same_new hDb, upd_same⟩ (fun i G _ hP => SqT.of (hP.1 _ _ (sa _ _ hqb))) (fun i v G hi hP => ?_) (fun Gb hP => ?_)
    · obtain ⟨s5, hd⟩ := hP
      obtain ⟨y, ey, rfl, hy, i2⟩ : ∃ y, [(acc.getD b (0, 0)).1, (acc.getD b (0, 0)).2][i]? = some y ∧ v = .int y ∧ y.natAbs < 2 ^ 900000 ∧ i < 2 := by
        match i, hi with
        | 0, hi => exact ⟨_, rfl, (Option.some.inj hi).symm, (bd.get b).1, by decide⟩
        | 1, hi => exact ⟨_, rfl, (Option.some.inj hi).symm, (bd.get b).2, by decide⟩
        | i + 2, hi => cases hi
      have s6 := Same.trans sa s5
      refine ⟨rfl, _, rfl, _, rfl, _, rfl, _, rfl, ra, _, 2, .int _, rfl, rfl, SqT.of (s6 _ _ hra3), a2, pa, _, _, _, rfl, rfl, SqL.of (s6 _ _ hpa), ints_at lb', _, _, rfl, rfl, _, _, rfl, rfl, sh b (.inr rfl), _, _, rfl, rfl, mulW_ok hy (mx b (.inr rfl)), _, hd, sl_lt (by rw [List.length_map, List.length_map, List.length_take]; show min i 2 ≤ 100000; omega), fun b' o' e' => ?_, ?_⟩
      · rw [upd_ne (ne_of_none e' hDb)]
        exact s5 _ _ e'
      · rw [upd_same, List.take_add_one, ey, List.map_append, List.map_append, ← Int.one_mul (2 ^ shlP pts a b b)]
        rfl
    obtain ⟨sb, hDb'⟩ := hP
    replace hDb' : Gb Db = some (.lst [.int ((acc.getD b (0, 0)).1 * 2 ^ shlP pts a b b), .int ((acc.getD b (0, 0)).2 * 2 ^ shlP pts a b b)]) := hDb'
    have S := sa.trans sb
    have hDa2 := sb _ _ hDa'
    have hDb2 := hDb'
    cases ls with
    | true =>
      refine ⟨_, rfl, ra, _, 0, .str _, rfl, rfl, SqT.of (S _ _ hra3), a0, rfl, _, rfl, iteC (d := true) (decide_eq_true (by rw [ew]; rfl)) (iteT ⟨_, rfl, Da, _, 0, .int _, rfl, rfl, SqL.of hDa2, a0, _, rfl, Db, _, 1, .int _, rfl, rfl, SqL.of hDb2, a1, _, _, rfl, rfl, _, rfl, Da, _, 1, .int _, rfl, rfl, SqL.of hDa2, a1, _, rfl, Db, _, 0, .int _, rfl, rfl, SqL.of hDb2, a0, _, _, rfl, rfl, (by show 2 ≤ sizeLine; decide), fun r hr => ?_⟩)⟩
      exact q r _ (S.trans (same_new hr)) upd_same
    | false =>
      refine ⟨_, rfl, ra, _, 0, .str _, rfl, rfl, SqT.of (S _ _ hra3), a0, rfl, _, rfl, iteC (d := false) (decide_eq_false (fun z => by rw [ew] at z; exact absurd (V.str.inj z) (by decide +kernel))) (iteF ⟨_, rfl, Da, _, 0, .int _, rfl, rfl, SqL.of hDa2, a0, _, rfl, Db, _, 0, .int _, rfl, rfl, SqL.of hDb2, a0, _, _, rfl, rfl, _, rfl, Da, _, 1, .int _, rfl, rfl, SqL.of hDa2, a1, _, rfl, Db, _, 1, .int _, rfl, rfl, SqL.of hDb2, a1, _, _, rfl, rfl, (by show 2 ≤ sizeLine; decide), fun r hr => ?_⟩)⟩
      exact q r _ (S.trans (same_new hr)) upd_same
theorem sc__law_keep : FnScope ["_law_form_here", "_law_point", "_law_ends", "_law_lowest", "_law_low_went", "_law_highest", "_law_high_went", "_law_over"] ["_law_form_here", "_law_point", "_law_ends"] (defScope s__law_keep) := ⟨rfl, rfl, rfl, by decide +kernel, rfl, by decide +kernel, by decide +kernel⟩
theorem ok__law_keep {f : Addr} {fd : FuncData} (F : Fun K "_law_keep" "_law_keep" s__law_keep f fd) (z : Zs mg) (c__law_kept : Cal P w K mg base 2 "_law_kept" ["_law_form_here", "_law_number", "_law_point"] spLKept) : FnOk P w K mg base CX0 3 f fd ["_law_form_here", "_law_point", "_law_ends"] spLKeepS := by
  refine F.ok sc__law_keep (fun vs H Q E h => ?_) (fun cdv A outer s H vs Q E hr h => ?_)
  · obtain ⟨p, s, FF, a, x, rfl, _⟩ := h
    rfl
  · obtain ⟨p, s, FF, a, x, rfl, hp, fo, hs, x0, x1, z1, z2, q⟩ := h
    refine ⟨_, (pss_cons (ps_asg (pe_cal c__law_kept hr (pa_cons (pv 0) (pa_cons (pe_ix ix_tup (pv 2) pe_int (fun _ _ => rfl)) (pa_cons (pv 1) pa_nil)))) (pg_tup (by rfl) (pgs_cons (pg_name (i := 3) sc__law_keep.nd rfl (.inl rfl)) (pgs_cons (pg_name (i := 4) sc__law_keep.nd rfl (.inl rfl)) pgs_nil))))
      (pss_cons (ps_asg (pe_cal c__law_kept hr (pa_cons (pv 0) (pa_cons (pe_ix ix_tup (pv 2) pe_int (fun _ _ => rfl)) (pa_cons (pv 1) pa_nil)))) (pg_tup (by rfl) (pgs_cons (pg_name (i := 5) sc__law_keep.nd rfl (.inl rfl)) (pgs_cons (pg_name (i := 6) sc__law_keep.nd rfl (.inl rfl)) pgs_nil))))
      (C8.pss_cut (ps_set (i := 7) sc__law_keep.nd rfl (.inl rfl) (pe_or (pe_cmpR op_ne (pv 4) pe_int (nomark _)) (pe_one (pe_cmpR op_ne (pv 6) pe_int (nomark _)))))
      (pss_cons (ps_if (PW.pt (pw_and (pt_val (pv 7)) (pw_and1 (pt_cmpR op_eq (pe_ix ix_tup (pv 0) pe_int (fun _ _ => rfl)) pe_str (nomark _))))) (pss_one (ps_ret (pe_tup (pa_cons (pe_op op_sub pe_int (pe_op op_shlW pe_int (pe_op op_sub (pe_ix ix_tup (pv 0) pe_int (fun _ _ => rfl)) pe_int))) (pa_cons (pe_op op_sub (pe_op op_shlW pe_int (pe_op op_sub (pe_ix ix_tup (pv 0) pe_int (fun _ _ => rfl)) pe_int)) pe_int) (pa_cons (pv 7) pa_nil)))))) pss_nil)
      (pss_one (ps_ret (pe_tup (pa_cons (pv 3) (pa_cons (pv 5) (pa_cons (pv 7) pa_nil)))))))))), ?_⟩
    refine ⟨_, rfl, _, rfl, s, _, 0, .int _, rfl, rfl, SqT.of hs, a0, _, rfl, p, FF, _, x, rfl, hp, fo, x0, x1, z1, fun t1 H1 s1 h_1 => ⟨t1, _, rfl, SqT.of h_1, rfl, _, _, rfl, _, _, rfl, rfl, ?_⟩⟩
    refine ⟨_, rfl, _, rfl, s, _, 1, .int _, rfl, rfl, SqT.of (s1 _ _ hs), a1, _, rfl, p, FF, _, x, rfl, (s1 _ _ hp), fo, x0, x1, z2, fun t2 H2 s2 h_2 => ⟨t2, _, rfl, SqT.of h_2, rfl, _, _, rfl, _, _, rfl, rfl, ?_⟩⟩
    have S := s1.trans s2
    have hp2 := S _ _ hp
    have eov : overB FF a x = (!decide (endO FF a.1 x = 0) || !decide (endO FF a.2 x = 0)) := rfl
    refine ⟨fun σ G => G = H2 ∧ σ = [some (.ref p), some (.int x), some (.ref s), some (.int (endW FF a.1 x)), some (.int (endO FF a.1 x)), some (.int (endW FF a.2 x)), some (.int (endO FF a.2 x)), some (.bl (overB FF a x))], ?_, fun σ G hM => ?_⟩
    · refine ⟨_, rfl, rfl, ?_⟩
      by_cases c : endO FF a.1 x = 0
      · refine ⟨_, rfl, iteC (d := false) (nb_t c) (iteF ⟨_, rfl, rfl, rfl, ?_⟩)⟩
        rw [eov, decide_eq_true c, Bool.not_true, Bool.false_or, ← dec_int2]
        rfl
      · refine ⟨_, rfl, iteC (d := true) (nb_f c) (iteT ⟨rfl, ?_⟩)⟩
        rw [eov, decide_eq_false c, Bool.not_false, Bool.true_or]
        rfl
    obtain ⟨rfl, rfl⟩ := hM
    have fin : ¬ (overB FF a x = true ∧ FF.st = false) → ∀ r, G r = none → Q (.ref r) (upd G r (.tup [.int (endW FF a.1 x), .int (endW FF a.2 x), .bl (overB FF a x)])) := fun hno r hr => q r _ (S.trans (same_new hr)) (by
      rw [upd_same]
      unfold keepSp
      rw [if_neg hno])
    cases ov : overB FF a x with
    | false =>
      rw [ov] at fin
      exact ⟨_, rfl, _, rfl, iteF (iteF ⟨_, rfl, _, rfl, _, rfl, (by show 3 ≤ sizeLine; decide), fun r hr => fin (fun z => absurd z.1 (by decide)) r hr⟩)⟩
    | true =>
      rw [ov] at fin
      refine ⟨_, rfl, _, rfl, iteT ⟨_, rfl, p, _, 3, .str _, rfl, rfl, SqT.of hp2, atI_nat (j := 3) rfl, rfl, _, rfl, ?_⟩⟩
      cases hst : FF.st with
      | true =>
        refine iteC (d := false) (decide_eq_false (fun z => absurd (V.str.inj z) (by decide +kernel))) (iteF ?_)
        exact ⟨_, rfl, _, rfl, _, rfl, (by show 3 ≤ sizeLine; decide), fun r hr => fin (fun z => by rw [hst] at z; exact absurd z.2 (by decide)) r hr⟩
      | false =>
        refine iteC (d := true) (decide_eq_true rfl) (iteT ?_)
        cases hw : FF.w with
        | none =>
          rw [no_over hw] at ov
          cases ov
        | some y =>
          obtain ⟨y0, y1⟩ := fo.wo y hw
          have hp3 : G p = some (.tup [.int y, .int FF.pt, .str FF.m.str, .str (endS FF.st)]) := by
            rw [hp2]
            unfold FormP.vs
            rw [hw]
            rfl
          have ey : y - 1 = (((y - 1).toNat : Nat) : Int) := by omega
          have cs : CShl 1 (y - 1) := by
            rw [ey]
            exact shl_ok (n := 1) (by decide) (by omega)
          refine ⟨_, rfl, p, _, 0, .int y, rfl, rfl, SqT.of hp3, a0, _, _, rfl, rfl, _, _, rfl, rfl, cs, _, _, rfl, rfl, _, rfl, p, _, 0, .int y, rfl, rfl, SqT.of hp3, a0, _, _, rfl, rfl, _, _, rfl, rfl, cs, _, _, rfl, rfl, _, rfl, (by show 3 ≤ sizeLine; decide), fun r hr => q r _ (S.trans (same_new hr)) ?_⟩
          have e2 : keepSp FF a x = (lst y, grt y) := by
            unfold keepSp
            rw [if_pos ⟨ov, hst⟩]
            unfold wordsOf
            rw [hw]
          rw [upd_same, e2, ov]
          have e3 : (1 : Int) * 2 ^ (y - 1).toNat = two (y - 1) := Int.one_mul _
          show some (HO.tup [V.int (0 - 1 * 2 ^ (y - 1).toNat), V.int (1 * 2 ^ (y - 1).toNat - 1), V.bl true]) = _
          rw [e3, Int.zero_sub]
          rfl
theorem sc__law_stretches : FnScope ["_law_parts", "_law_points_here", "_law_entered", "_law_hold_list", "_law_found", "_law_row_here", "_law_end"] ["_law_parts", "_law_points_here", "_law_entered", "_law_hold_list"] (defScope s__law_stretches) := ⟨rfl, rfl, rfl, by decide +kernel, rfl, by decide +kernel, by decide +kernel⟩
theorem ok__law_stretches {f : Addr} {fd : FuncData} (F : Fun K "_law_stretches" "_law_stretches" s__law_stretches f fd) (z : Zs mg) (c__law_keep : Cal P w K mg base 3 "_law_keep" ["_law_form_here", "_law_point", "_law_ends"] spLKeepS) (c__law_sum : Cal P w K mg base 1 "_law_sum" ["_law_points_here", "_law_row_here", "_law_found"] spLSumS) : FnOk P w K mg base CX0 4 f fd ["_law_parts", "_law_points_here", "_law_entered", "_law_hold_list"] spLStr := by
  refine F.ok sc__law_stretches (fun vs H Q E h => ?_) (fun cdv A outer s H vs Q E hr h => ?_)
  · obtain ⟨hp, pa, xa, ha, n, x, held, hv, k, rfl, _⟩ := h
    rfl
  · obtain ⟨hp, pa, xa, ha, n, x, held, hv, k, rfl, hpp, nok, l26, hpa, hxa, hha, th, hls, k70, kb, zx, zh, q⟩ := h
    refine ⟨_, (pss_cons (ps_set (i := 4) sc__law_stretches.nd rfl (.inl rfl) (pe_lst pa_nil))
      (pss_cons (ps_for PassesOwn.never rfl (pi_list (pe_ix ix_tup (pv 0) pe_int (fun _ _ => rfl))) (pg_name (i := 5) sc__law_stretches.nd rfl (.inr rfl)) (pss_one (ps_if (pt_cmpR op_eq (pe_ix ix_tup (pv 5) pe_int (fun _ _ => rfl)) pe_str (nomark _)) (pss_one (ps_expr (pe_bm PySem.F.plainAttrs_list PySem.F.slot_list_append PySem.F.type_list_append mt_append (pv 4) (pa_cons (pv 2) pa_nil)))) (pss_one (ps_if (pt_cmpR op_eq (pe_ix ix_tup (pv 5) pe_int (fun _ _ => rfl)) pe_str (nomark _)) (pss_one (ps_expr (pe_bm PySem.F.plainAttrs_list PySem.F.slot_list_append PySem.F.type_list_append mt_append (pv 4) (pa_cons (pe_ix ix_list (pv 3) (pe_ix ix_tup (pv 5) pe_int (fun _ _ => rfl)) (fun _ _ => rfl)) pa_nil)))) (pss_one (ps_if (pt_cmpR op_eq (pe_ix ix_tup (pv 5) pe_int (fun _ _ => rfl)) pe_str (nomark _)) (pss_one (ps_expr (pe_bm PySem.F.plainAttrs_list PySem.F.slot_list_append PySem.F.type_list_append mt_append (pv 4) (pa_cons (pe_callTy call_tuple_of (by rfl) z.tuple (by decide +kernel) (pa_cons (pe_callB cr_sorted (by rfl) z.sorted (by decide +kernel) (pa_cons (pe_lc (own := [("_law_end", 6)]) (g := gName 6) (tt := tYes) (te := (tOp (rI CMul fun i j => V.int (i * j)) (tOp (rIxT K) (tVar 5) (tC (.int 1))) (tVar 6))) (by rfl) sc__law_stretches.nd (pi_tup (pe_ix ix_list (pv 4) (pe_ix ix_tup (pv 5) pe_int (fun _ _ => rfl)) (fun _ _ => rfl))) (blkOk_by (own := [("_law_end", 6)]) (N := ["_law_parts", "_law_points_here", "_law_entered", "_law_hold_list", "_law_found", "_law_row_here", "_law_end"]) (sc := defScope s__law_stretches) (by decide +kernel)) (fun _ _ _ _ _ => by exact (pg_name (i := 6) sc__law_stretches.nd rfl (.inl rfl))) (fun _ _ _ _ _ => by exact pts_nil) (fun _ _ _ _ _ => by exact (pe_op op_mul (pe_ix ix_tup (pv 5) pe_int (fun _ _ => rfl)) (pv 6)))) pa_nil)) pa_nil)) pa_nil)))) (pss_one (ps_if (pt_cmpR op_eq (pe_ix ix_tup (pv 5) pe_int (fun _ _ => rfl)) pe_str (nomark _)) (pss_one (ps_expr (pe_bm PySem.F.plainAttrs_list PySem.F.slot_list_append PySem.F.type_list_append mt_append (pv 4) (pa_cons (pe_ix ix_list (pv 4) (pe_ix ix_tup (pv 5) pe_int (fun _ _ => rfl)) (fun _ _ => rfl)) pa_nil)))) (pss_one (ps_if (pt_cmpR op_eq (pe_ix ix_tup (pv 5) pe_int (fun _ _ => rfl)) pe_str (nomark _)) (pss_one (ps_expr (pe_bm PySem.F.plainAttrs_list PySem.F.slot_list_append PySem.F.type_list_append mt_append (pv 4) (pa_cons (pe_slice sl_tup (pe_cal c__law_keep hr (pa_cons (pe_ix ix_list (pe_ix ix_tup (pv 0) pe_int (fun _ _ => rfl)) (pe_ix ix_tup (pv 5) pe_int (fun _ _ => rfl)) (fun _ _ => rfl)) (pa_cons (pe_ix ix_list (pv 1) (pe_ix ix_tup (pv 5) pe_int (fun _ _ => rfl)) (fun _ _ => rfl)) (pa_cons (pe_ix ix_list (pv 4) (pe_ix ix_tup (pv 5) pe_int (fun _ _ => rfl)) (fun _ _ => rfl)) pa_nil)))) po_none (po_some pe_int)) pa_nil)))) (pss_one (ps_expr (pe_bm PySem.F.plainAttrs_list PySem.F.slot_list_append PySem.F.type_list_append mt_append (pv 4) (pa_cons (pe_cal c__law_sum hr (pa_cons (pv 1) (pa_cons (pv 5) (pa_cons (pv 4) pa_nil)))) pa_nil)))))))))))))))
      (pss_one (ps_ret (pv 4))))), ?_⟩
    obtain ⟨fa, ra, hb, hhp, ⟨fv, hfa, tf⟩, ⟨rv, hra, tr⟩, _⟩ := id hpp
    have lr := tr.rlen
    have r60 := nok.r2
    have h6 := nok.h2
    have lpt := pts_len n
    refine ⟨(by show 0 ≤ sizeLine; decide), fun dl hdl => ?_⟩
    generalize hG : upd _ dl _ = G0
    obtain ⟨s0, h_dl0⟩ := upd_gen hG hdl
    refine ⟨_, rfl, hp, _, 2, .ref ra, rfl, rfl, SqT.of (s0 _ _ hhp), a2, ra, rfl, ⟨_, SqL.of (s0 _ _ hra)⟩, ?_⟩
    refine for_it (walk_list (K := K) (a := ra) (xs := rv)) (fun i σ G => ∃ (y : Option V) (lv : List V), σ = [some (.ref hp), some (.ref pa), some (.ref xa), some (.ref ha), some (.ref dl), y, none] ∧ Same H G ∧ G dl = some (.lst lv) ∧ TsAt G lv ((accS (rowSp n.fs n.pts x held) (n.rows.take i)).map spV)) ⟨none, [], rfl, s0, h_dl0, .nil⟩ (fun i σ G hi hP => ?_) (fun i v σ G G' hi hP hY => ?_) (fun σ G hP => ?_)
    · obtain ⟨y, lv, rfl, S, _⟩ := hP
      exact SqL.of (S _ _ hra)
    · obtain ⟨y, lv, rfl, S, hd, tl⟩ := hP
      obtain ⟨rfl, hx⟩ := hY
      obtain ⟨rp, xs, rfl, ex, hrp⟩ := tr.get hx
      rw [List.getElem?_map] at ex
      obtain ⟨r, er, rfl⟩ := Option.map_eq_some_iff.mp ex
      have il := (List.getElem?_eq_some_iff.mp er).1
      replace hrp := S _ _ hrp
      have la : (accS (rowSp n.fs n.pts x held) (n.rows.take i)).length = i := by
        rw [accS_len _ _ _ rfl, List.length_take]
        omega
      have nx := accS_next (g := rowSp n.fs n.pts x held) er
      have lvl := tl.len
      rw [List.length_map, la] at lvl
      have small : lv.length < sizeLine := sl_lt (by omega)
      have bdi := (spans_lt nok zx zh k70 i (by omega)).mono (j := 900000) (by omega)
      have step : ∀ (t : Addr) (G2 : Hp), Same G' G2 → G2 t = some (.tup (spV (rowSp n.fs n.pts x held (accS (rowSp n.fs n.pts x held) (n.rows.take i)) r))) → ∃ (y : Option V) (lv' : List V), [some (V.ref hp), some (.ref pa), some (.ref xa), some (.ref ha), some (.ref dl), some (.ref rp), none] = [some (.ref hp), some (.ref pa), some (.ref xa), some (.ref ha), some (.ref dl), y, none] ∧ Same H (upd G2 dl (.lst (lv ++ [.ref t]))) ∧ (upd G2 dl (.lst (lv ++ [.ref t]))) dl = some (.lst lv') ∧ TsAt (upd G2 dl (.lst (lv ++ [.ref t]))) lv' ((accS (rowSp n.fs n.pts x held) (n.rows.take (i + 1))).map spV) := fun t G2 s h_t => by
        refine ⟨_, _, rfl, fun b o e => ?_, upd_same, ?_⟩
        · rw [upd_ne (ne_of_none e hdl)]
          exact s _ _ (S _ _ e)
        · rw [nx, List.map_append]
          exact TsAt.push (s _ _ hd) (tl.same s) h_t
      have hok := nok.ro i r er
      match r, hrp, hok, step with
      | .inn, hrp, _, step =>
        exact ⟨_, rfl, rp, _, 0, .str _, rfl, rfl, SqT.of hrp, a0, rfl, _, rfl, iteC (d := true) (decide_eq_true rfl) (iteT ⟨_, rfl, .inl ⟨rfl, _, SqL.of hd⟩, _, rfl, dl, _, _, rfl, rfl, hd, small, step xa _ (Same.refl _) (S _ _ hxa)⟩)⟩
      | .old k2, hrp, hok, step =>
        obtain ⟨qo, eo, hqo⟩ := spans_at (th.same S) (show k2 < held.length by rw [hls]; exact hok)
        exact ⟨_, rfl, rp, _, 0, .str _, rfl, rfl, SqT.of hrp, a0, rfl, _, rfl, iteC (d := false) (decide_eq_false (fun z => absurd (V.str.inj z) (by decide +kernel))) (iteF ⟨_, rfl, rp, _, 0, .str _, rfl, rfl, SqT.of hrp, a0, rfl, _, rfl, iteC (d := true) (decide_eq_true rfl) (iteT ⟨_, rfl, .inl ⟨rfl, _, SqL.of hd⟩, _, rfl, _, rfl, rp, _, 1, .int k2, rfl, rfl, SqT.of hrp, a1, ha, _, _, .ref qo, rfl, rfl, SqL.of (S _ _ hha), atI_nat eo, dl, _, _, rfl, rfl, hd, small, step qo _ (Same.refl _) hqo⟩)⟩)⟩
      | .times f m a, hrp, hok, step =>
        obtain ⟨hf, _, h3⟩ := hok
        have hka : a < (accS (rowSp n.fs n.pts x held) (n.rows.take i)).length := by rw [la]; exact h3
        obtain ⟨qa, ea, hqa⟩ := spans_at tl hka
        refine ⟨_, rfl, rp, _, 0, .str _, rfl, rfl, SqT.of hrp, a0, rfl, _, rfl, iteC (d := false) (decide_eq_false (fun z => absurd (V.str.inj z) (by decide +kernel))) (iteF ⟨_, rfl, rp, _, 0, .str _, rfl, rfl, SqT.of hrp, a0, rfl, _, rfl, iteC (d := false) (decide_eq_false (fun z => absurd (V.str.inj z) (by decide +kernel))) (iteF ⟨_, rfl, rp, _, 0, .str _, rfl, rfl, SqT.of hrp, a0, rfl, _, rfl, iteC (d := true) (decide_eq_true rfl) (iteT ⟨_, rfl, .inl ⟨rfl, _, SqL.of hd⟩, _, rfl, _, rfl, rp, _, 3, .int a, rfl, rfl, SqT.of hrp, atI_nat (j := 3) rfl, dl, _, _, .ref qa, rfl, rfl, SqL.of hd, atI_nat ea, qa, rfl, ⟨_, SqT.of hqa⟩, fun D hD => ?_⟩)⟩)⟩)⟩
        refine lc_tup (K := K) (a := qa) (xs := spV ((accS (rowSp n.fs n.pts x held) (n.rows.take i)).getD a (0, 0))) (fun j G => Same G' G ∧ G D = some (.lst ((([((accS (rowSp n.fs n.pts x held) (n.rows.take i)).getD a (0, 0)).1, ((accS (rowSp n.fs n.pts x held) (n.rows.take i)).getD a (0, 0)).2].take j).map fun y => f * y).map V.int))) ⟨same_new hD, upd_same⟩ (fun j G _ hP => SqT.of (hP.1 _ _ hqa)) (fun j v G hj hP => ?_) (fun G1 hP => ?_)
        · obtain ⟨s5, hd5⟩ := hP
          obtain ⟨y, ey, rfl, hy, j2⟩ : ∃ y, [((accS (rowSp n.fs n.pts x held) (n.rows.take i)).getD a (0, 0)).1, ((accS (rowSp n.fs n.pts x held) (n.rows.take i)).getD a (0, 0)).2][j]? = some y ∧ v = .int y ∧ y.natAbs < 2 ^ 900000 ∧ j < 2 := by
            match j, hj with
            | 0, hj => exact ⟨_, rfl, (Option.some.inj hj).symm, (bdi.get a).1, by decide⟩
            | 1, hj => exact ⟨_, rfl, (Option.some.inj hj).symm, (bdi.get a).2, by decide⟩
            | j + 2, hj => cases hj
          refine ⟨rfl, _, rfl, rp, _, 1, .int f, rfl, rfl, SqT.of (s5 _ _ hrp), a1, _, rfl, _, _, rfl, rfl, .inl ⟨by omega, by omega⟩, _, hd5, sl_lt (by rw [List.length_map, List.length_map, List.length_take]; show min j 2 ≤ 100000; omega), fun b' o' e' => ?_, ?_⟩
          · rw [upd_ne (ne_of_none e' hD)]
            exact s5 _ _ e'
          · rw [upd_same, List.take_add_one, ey, List.map_append, List.map_append]
            rfl
        obtain ⟨s5, hd5⟩ := hP
        refine ⟨D, [f * ((accS (rowSp n.fs n.pts x held) (n.rows.take i)).getD a (0, 0)).1, f * ((accS (rowSp n.fs n.pts x held) (n.rows.take i)).getD a (0, 0)).2], rfl, SqL.of hd5, (by show 2 < 64; decide), fun ns l hperm hsort hl => ?_⟩
        generalize hG6 : upd _ l _ = G6
        obtain ⟨s6, h_l⟩ := upd_gen hG6 hl
        rw [two_mm hperm hsort] at h_l
        refine ⟨l, _, rfl, .inl ⟨SqL.of h_l, fun t ht => ?_⟩⟩
        generalize hG7 : upd _ t _ = G7
        obtain ⟨s7, h_t⟩ := upd_gen hG7 ht
        have S7 := s5.trans (s6.trans s7)
        exact ⟨dl, _, _, rfl, rfl, S7 _ _ hd, small, step t _ S7 h_t⟩
      | .move m a, hrp, hok, step =>
        obtain ⟨_, h3⟩ := hok
        have hka : a < (accS (rowSp n.fs n.pts x held) (n.rows.take i)).length := by rw [la]; exact h3
        obtain ⟨qa, ea, hqa⟩ := spans_at tl hka
        exact ⟨_, rfl, rp, _, 0, .str _, rfl, rfl, SqT.of hrp, a0, rfl, _, rfl, iteC (d := false) (decide_eq_false (fun z => absurd (V.str.inj z) (by decide +kernel))) (iteF ⟨_, rfl, rp, _, 0, .str _, rfl, rfl, SqT.of hrp, a0, rfl, _, rfl, iteC (d := false) (decide_eq_false (fun z => absurd (V.str.inj z) (by decide +kernel))) (iteF ⟨_, rfl, rp, _, 0, .str _, rfl, rfl, SqT.of hrp, a0, rfl, _, rfl, iteC (d := false) (decide_eq_false (fun z => absurd (V.str.inj z) (by decide +kernel))) (iteF ⟨_, rfl, rp, _, 0, .str _, rfl, rfl, SqT.of hrp, a0, rfl, _, rfl, iteC (d := true) (decide_eq_true rfl) (iteT ⟨_, rfl, .inl ⟨rfl, _, SqL.of hd⟩, _, rfl, _, rfl, rp, _, 2, .int a, rfl, rfl, SqT.of hrp, a2, dl, _, _, .ref qa, rfl, rfl, SqL.of hd, atI_nat ea, dl, _, _, rfl, rfl, hd, small, step qa _ (Same.refl _) hqa⟩)⟩)⟩)⟩)⟩
      | .keep f a, hrp, hok, step =>
        obtain ⟨h1, h2⟩ := hok
        have hka : a < (accS (rowSp n.fs n.pts x held) (n.rows.take i)).length := by rw [la]; exact h2
        obtain ⟨qa, ea, hqa⟩ := spans_at tl hka
        have ef := List.getElem?_eq_getElem h1
        have efr := frm_at ef
        obtain ⟨p, ep, hfp⟩ := tf.at (i := f) (xs := (frm n.fs f).vs) (by rw [List.getElem?_map, ef, efr]; rfl)
        have fo : (frm n.fs f).Ok := by
          rw [efr]
          exact nok.fo _ (List.getElem_mem h1)
        have h3 : a < n.pts.length := by omega
        obtain ⟨p0, p1⟩ := nok.po (n.pts.getD a 0) (by
          rw [List.getD_eq_getElem?_getD, List.getElem?_eq_getElem h3]
          exact List.getElem_mem _)
        refine ⟨_, rfl, rp, _, 0, .str _, rfl, rfl, SqT.of hrp, a0, rfl, _, rfl, iteC (d := false) (decide_eq_false (fun z => absurd (V.str.inj z) (by decide +kernel))) (iteF ⟨_, rfl, rp, _, 0, .str _, rfl, rfl, SqT.of hrp, a0, rfl, _, rfl, iteC (d := false) (decide_eq_false (fun z => absurd (V.str.inj z) (by decide +kernel))) (iteF ⟨_, rfl, rp, _, 0, .str _, rfl, rfl, SqT.of hrp, a0, rfl, _, rfl, iteC (d := false) (decide_eq_false (fun z => absurd (V.str.inj z) (by decide +kernel))) (iteF ⟨_, rfl, rp, _, 0, .str _, rfl, rfl, SqT.of hrp, a0, rfl, _, rfl, iteC (d := false) (decide_eq_false (fun z => absurd (V.str.inj z) (by decide +kernel))) (iteF ⟨_, rfl, rp, _, 0, .str _, rfl, rfl, SqT.of hrp, a0, rfl, _, rfl, iteC (d := true) (decide_eq_true rfl) (iteT ⟨_, rfl, .inl ⟨rfl, _, SqL.of hd⟩, _, rfl, hp, _, 0, .ref fa, rfl, rfl, SqT.of (S _ _ hhp), a0, _, rfl, rp, _, 1, .int f, rfl, rfl, SqT.of hrp, a1, fa, _, _, .ref p, rfl, rfl, SqL.of (S _ _ hfa), atI_nat ep, _, rfl, _, rfl, rp, _, 2, .int a, rfl, rfl, SqT.of hrp, a2, pa, _, _, _, rfl, rfl, SqL.of (S _ _ hpa), ints_at h3, _, rfl, _, rfl, rp, _, 2, .int a, rfl, rfl, SqT.of hrp, a2, dl, _, _, .ref qa, rfl, rfl, SqL.of hd, atI_nat ea, p, qa, frm n.fs f, _, _, rfl, S _ _ hfp, fo, hqa, p0, p1, (bdi.get a).1, (bdi.get a).2, fun r2 G2 s2 h_r2 => ?_⟩)⟩)⟩)⟩)⟩)⟩
        refine ⟨_, rfl, r2, _, rfl, SqT.of h_r2, (by show ¬ (HT.sIx 3 0 none = 0 ∧ HT.sIx 3 3 (some 2) = 3); decide), fun t ht => ?_⟩
        generalize hG7 : upd _ t _ = G7
        obtain ⟨s7, h_t⟩ := upd_gen hG7 ht
        have S7 := s2.trans s7
        exact ⟨dl, _, _, rfl, rfl, S7 _ _ hd, small, step t _ S7 h_t⟩
      | .plus a b, hrp, hok, step =>
        have hka : a < (accS (rowSp n.fs n.pts x held) (n.rows.take i)).length := by rw [la]; exact hok.1
        obtain ⟨qa, ea, hqa⟩ := spans_at tl hka
        have hkb : b < (accS (rowSp n.fs n.pts x held) (n.rows.take i)).length := by rw [la]; exact hok.2
        obtain ⟨qb, eb, hqb⟩ := spans_at tl hkb
        refine ⟨_, rfl, rp, _, 0, .str _, rfl, rfl, SqT.of hrp, a0, rfl, _, rfl, iteC (d := false) (decide_eq_false (fun z => absurd (V.str.inj z) (by decide +kernel))) (iteF ⟨_, rfl, rp, _, 0, .str _, rfl, rfl, SqT.of hrp, a0, rfl, _, rfl, iteC (d := false) (decide_eq_false (fun z => absurd (V.str.inj z) (by decide +kernel))) (iteF ⟨_, rfl, rp, _, 0, .str _, rfl, rfl, SqT.of hrp, a0, rfl, _, rfl, iteC (d := false) (decide_eq_false (fun z => absurd (V.str.inj z) (by decide +kernel))) (iteF ⟨_, rfl, rp, _, 0, .str _, rfl, rfl, SqT.of hrp, a0, rfl, _, rfl, iteC (d := false) (decide_eq_false (fun z => absurd (V.str.inj z) (by decide +kernel))) (iteF ⟨_, rfl, rp, _, 0, .str _, rfl, rfl, SqT.of hrp, a0, rfl, _, rfl, iteC (d := false) (decide_eq_false (fun z => absurd (V.str.inj z) (by decide +kernel))) (iteF ⟨_, rfl, .inl ⟨rfl, _, SqL.of hd⟩, _, rfl, _, rfl, _, rfl, rp, dl, pa, .plus a b, a, b, false, lv, _, n.pts, rfl, hrp, .inl ⟨rfl, rfl⟩, hd, tl, S _ _ hpa, hka, hkb, (by omega), bdi, nok.po, fun t G2 s h_t => ?_⟩)⟩)⟩)⟩)⟩)⟩
        exact ⟨dl, _, _, rfl, rfl, s _ _ hd, small, step t _ s h_t⟩
      | .less a b, hrp, hok, step =>
        have hka : a < (accS (rowSp n.fs n.pts x held) (n.rows.take i)).length := by rw [la]; exact hok.1
        obtain ⟨qa, ea, hqa⟩ := spans_at tl hka
        have hkb : b < (accS (rowSp n.fs n.pts x held) (n.rows.take i)).length := by rw [la]; exact hok.2
        obtain ⟨qb, eb, hqb⟩ := spans_at tl hkb
        refine ⟨_, rfl, rp, _, 0, .str _, rfl, rfl, SqT.of hrp, a0, rfl, _, rfl, iteC (d := false) (decide_eq_false (fun z => absurd (V.str.inj z) (by decide +kernel))) (iteF ⟨_, rfl, rp, _, 0, .str _, rfl, rfl, SqT.of hrp, a0, rfl, _, rfl, iteC (d := false) (decide_eq_false (fun z => absurd (V.str.inj z) (by decide +kernel))) (iteF ⟨_, rfl, rp, _, 0, .str _, rfl, rfl, SqT.of hrp, a0, rfl, _, rfl, iteC (d := false) (decide_eq_false (fun z => absurd (V.str.inj z) (by decide +kernel))) (iteF ⟨_, rfl, rp, _, 0, .str _, rfl, rfl, SqT.of hrp, a0, rfl, _, rfl, iteC (d := false) (decide_eq_false (fun z => absurd (V.str.inj z) (by decide +kernel))) (iteF ⟨_, rfl, rp, _, 0, .str _, rfl, rfl, SqT.of hrp, a0, rfl, _, rfl, iteC (d := false) (decide_eq_false (fun z => absurd (V.str.inj z) (by decide +kernel))) (iteF ⟨_, rfl, .inl ⟨rfl, _, SqL.of hd⟩, _, rfl, _, rfl, _, rfl, rp, dl, pa, .less a b, a, b, true, lv, _, n.pts, rfl, hrp, .inr ⟨rfl, rfl⟩, hd, tl, S _ _ hpa, hka, hkb, (by omega), bdi, nok.po, fun t G2 s h_t => ?_⟩)⟩)⟩)⟩)⟩)⟩
        exact ⟨dl, _, _, rfl, rfl, s _ _ hd, small, step t _ s h_t⟩
    · obtain ⟨y, lv, rfl, S, hd, tl⟩ := hP
      rw [lr, List.take_length] at tl
      exact ⟨_, rfl, q dl lv _ hdl S hd tl⟩
end
end E1

namespace E1
open PySem PySem.Spec PyProof.Rows L2
def Kd7.isKp : Kd7 → Bool
  | .keep => true
  | _ => false
theorem kp_no {k : Kd7} (h : k ≠ .keep) : k.isKp = false := by
  cases k <;> first | rfl | exact absurd rfl h

def kpAt (rows : List Row) (i : Nat) : Bool := match rows[i]? with
  | some (.keep _ _) => true
  | _ => false
/-- what went at a row -/
def wentV (n : NetP) (nums : List Int) (f a : Nat) : Int :=
  stepsAt (frm n.fs f).pt (frm n.fs f).m (nums.getD a 0) (n.pts.getD a 0) - wordF (frm n.fs f).w (frm n.fs f).st (stepsAt (frm n.fs f).pt (frm n.fs f).m (nums.getD a 0) (n.pts.getD a 0))
def wentAt (n : NetP) (nums : List Int) (i : Nat) : Bool := match n.rows[i]? with
  | some (.keep f a) => !decide (V.int (wentV n nums f a) = V.int 0)
  | _ => false
def keepsOf (rows : List Row) : List Nat := (List.range rows.length).filter (kpAt rows)
def oversOf (n : NetP) (nums : List Int) : List Nat := (List.range n.rows.length).filter (wentAt n nums)
theorem filt_one (p : Nat → Bool) (i : Nat) : [i].filter p = if p i = true then [i] else [] := by
  rw [List.filter_cons]
  rfl
theorem range_filt (p : Nat → Bool) (i : Nat) : (List.range (i + 1)).filter p = (List.range i).filter p ++ (if p i = true then [i] else []) := by
  rw [List.range_succ, List.filter_append, filt_one]
theorem went_kp {n : NetP} {nums : List Int} {i : Nat} (h : wentAt n nums i = true) : kpAt n.rows i = true := by
  unfold wentAt at h
  split at h
  · rename_i f a e
    unfold kpAt
    rw [e]
  · cases h
theorem overs_is (n : NetP) (nums : List Int) : (keepsOf n.rows).filter (wentAt n nums) = oversOf n nums := by
  unfold keepsOf oversOf
  rw [List.filter_filter]
  refine List.filter_congr fun i _ => ?_
  cases h : wentAt n nums i with
  | false => rfl
  | true => exact went_kp h
theorem keeps_at {rows : List Row} {i : Nat} (h : i ∈ keepsOf rows) : ∃ f a, rows[i]? = some (.keep f a) := by
  have := (List.mem_filter.mp h).2
  unfold kpAt at this
  split at this
  · rename_i f a e
    exact ⟨f, a, e⟩
  · cases this
theorem kp_of {rows : List Row} {i : Nat} {r : Row} (e : rows[i]? = some r) : kpAt rows i = r.kd.isKp := by
  unfold kpAt
  rw [e]
  cases r <;> rfl

def spKeepsM (C CN : Addr) : Sp := fun vs H Q _ => ∃ (p : Addr) (n : NetP), vs = [.ref p] ∧ NetAt C CN H p n ∧ ∀ l H', H l = none → Same H H' → H' l = some (.lst ((keepsOf n.rows).map nI)) → Q (.ref l) H'
structure NumsOk (n : NetP) (nums : List Int) : Prop where
  len : nums.length = n.rows.length
  sz : ∀ k ∈ nums, k.natAbs < 2 ^ 900000
def spWent (C CN : Addr) : Sp := fun vs H Q _ => ∃ (p na : Addr) (n : NetP) (i : Nat) (nums : List Int) (f a : Nat), vs = [.ref p, .int i, .ref na] ∧ NetAt C CN H p n ∧ n.rows[i]? = some (.keep f a) ∧ H na = some (.lst (nums.map V.int)) ∧ NumsOk n nums ∧ ∀ H', Same H H' → Q (.bl (wentAt n nums i)) H'
def spOvers (C CN : Addr) : Sp := fun vs H Q _ => ∃ (p na : Addr) (n : NetP) (nums : List Int), vs = [.ref p, .ref na] ∧ NetAt C CN H p n ∧ H na = some (.lst (nums.map V.int)) ∧ NumsOk n nums ∧ ∀ l H', H l = none → Same H H' → H' l = some (.lst ((oversOf n nums).map nI)) → Q (.ref l) H'
section
variable {P : Program} {w : World} {K : PySem.W.Frag} {mg : Str → Option Value} {base : Heap}
theorem sc_Net_keeps : FnScope ["self", "at", "row"] ["self"] (defScope s_Net_keeps) := ⟨rfl, rfl, rfl, by decide +kernel, rfl, by decide +kernel, by decide +kernel⟩
theorem ok_Net_keeps {f : Addr} {fd : FuncData} {k : Nat} {C CN : Addr} (TN : NTxt K mg CN) (F : Fun K "keeps" "Net.keeps" s_Net_keeps f fd) (z : Zs mg) : FnOk P w K mg base CX0 (k + 1) f fd ["self"] (spKeepsM C CN) := by
  refine F.ok sc_Net_keeps (fun vs H Q E h => ?_) (fun cdv A outer s H vs Q E hr h => ?_)
  · obtain ⟨p, n, rfl, _⟩ := h
    rfl
  · obtain ⟨p, n, rfl, ⟨ok, dx, fl, rl, hl2, pl, fv, rv, hv, b⟩, q⟩ := h
    refine ⟨_, (pss_one (ps_ret (pe_lc (own := [("at", 1), ("row", 2)]) (g := gTup K 2 (gCons (gName 1) (gCons (gName 2) gNil))) (te := (tVar 1)) (tt := (tTest (tOp rEq (tOp (rIxT K) (tVar 2) (tC (.int 0))) (tC (.str "keep"))))) (by rfl) sc_Net_keeps.nd (pi_enum (by rfl) z.enumerate (pa_cons (pe_fld (pv 0) rfl) pa_nil)) (blkOk_by (own := [("at", 1), ("row", 2)]) (N := ["self", "at", "row"]) (sc := defScope s_Net_keeps) (by decide +kernel)) (fun _ _ _ _ _ => by exact (pg_tup (by rfl) (pgs_cons (pg_name (i := 1) sc_Net_keeps.nd rfl (.inl rfl)) (pgs_cons (pg_name (i := 2) sc_Net_keeps.nd rfl (.inl rfl)) pgs_nil)))) (fun _ _ _ _ _ => by exact (pts_one (pt_cmpR op_eq (pe_ix ix_tup (pv 2) pe_int (fun _ _ => rfl)) pe_str (nomark _)))) (fun _ _ _ _ _ => by exact (pv 1))))), ?_⟩
    have lr := b.rs.rlen
    have r60 := ok.r2
    refine ⟨_, rfl, p, CN, dx, _, _, rfl, b.ob, TN.cl, TN.n_row_list, nl_r, rl, _, rfl, SqL.of b.ra, fun D hD => ?_⟩
    refine lc_it (walk_enum (K := K) (a := rl) (xs := rv)) (fun i G => Same H G ∧ G D = some (.lst (((List.range i).filter (kpAt n.rows)).map nI))) ⟨same_new hD, upd_same⟩ (fun i G _ hP => SqL.of (hP.1 _ _ b.ra)) (fun i v G G' hi hP hY => ?_) (fun G hP => ?_)
    · obtain ⟨s1, hd⟩ := hP
      obtain ⟨Tp, u, v', rfl, nT, rfl, e1, e2⟩ := hY
      cases e1
      obtain ⟨rp, xs, rfl, ex, hrp⟩ := b.rs.get e2
      rw [List.getElem?_map] at ex
      obtain ⟨r, er, rfl⟩ := Option.map_eq_some_iff.mp ex
      have sN := same_new (o := .tup [.int (i : Nat), .ref rp]) nT
      have S := s1.trans sN
      have ek := kp_of er
      have lt : (((List.range i).filter (kpAt n.rows)).map nI).length < sizeLine := by
        rw [List.length_map]
        refine sl_lt (Nat.le_trans (List.length_filter_le _ _) ?_)
        rw [List.length_range]
        omega
      refine ⟨Tp, _, rfl, SqT.of upd_same, rfl, _, _, rfl, _, _, rfl, rfl, rfl, ?_⟩
      refine ⟨_, rfl, rp, _, 0, .str r.kd.s, rfl, rfl, SqT.of (S _ _ hrp), atI_nat (j := 0) r.vs0, rfl, _, rfl, ?_⟩
      by_cases k1 : r.kd = .keep
      · refine iteC (d := true) (by rw [k1]; exact decide_eq_true rfl) (iteT ⟨_, rfl, _, sN _ _ hd, lt, fun c o e => ?_, ?_⟩)
        · rw [upd_ne (ne_of_none e hD)]
          exact S _ _ e
        · rw [upd_same, range_filt, ek, k1, if_pos (show Kd7.keep.isKp = true from rfl), List.map_append]
          rfl
      · refine iteC (d := false) (decide_eq_false (fun z => kd_ne _ _ k1 (V.str.inj z))) (iteF ⟨S, ?_⟩)
        rw [range_filt, ek, kp_no k1, if_neg (by decide), List.append_nil]
        exact sN _ _ hd
    · obtain ⟨s1, hd⟩ := hP
      rw [lr] at hd
      exact q D _ hD s1 hd
end
end E1

namespace E1
open PySem PySem.Spec PyProof.Rows L2

theorem box_bd {n : NetP} (ok : NetOk n) (l26 : n.rows.length ≤ 26) {x : Sp2} {many : Nat} {held sp : List Sp2} {r : Nat} (hx : x.1.natAbs < 2 ^ 70 ∧ x.2.natAbs < 2 ^ 70) : ∀ (f r0 : Nat) (h0 : List Sp2) (k : Nat), 70 ≤ k → BdS k h0 → h0.length = n.holds.length → boxF n x many f h0 r0 = some (.box held sp r) → BdS (k + 15600 * f) held
  | 0, _, _, _, _, _, _, h => by cases h
  | f + 1, r0, h0, k, k70, bd, hl, h => by
    unfold boxF at h
    split at h
    · cases h
    · split at h
      · cases h
        exact bd.mono (by omega)
      · have bs := spans_all ok l26 (x := x) (held := h0) (k := k) ⟨up hx.1 (by omega), up hx.2 (by omega)⟩ bd k70
        exact (box_bd ok l26 hx f (r0 + 1) _ (k + 15600) (by omega) (grow_lt ok (by omega) bs (bd.mono (by omega)) hl) (down_len hl) h).mono (by omega)
def overAt (n : NetP) (x : Sp2) (held : List Sp2) (i : Nat) : Bool := match n.rows[i]? with
  | some (.keep f a) => overB (frm n.fs f) ((n.spans x held).getD a (0, 0)) (n.pts.getD a 0)
  | _ => false
def mayF (n : NetP) (x : Sp2) (held : List Sp2) : List Nat := (keepsOf n.rows).filter (overAt n x held)
theorem rep_all9 (k : Nat) : (List.replicate k true).all id = true := by
  rw [List.all_eq_true]
  exact fun x hx => (List.mem_replicate.mp hx).2

theorem box_len {n : NetP} {x : Sp2} {many : Nat} {held sp : List Sp2} {r : Nat} : ∀ (f r0 : Nat) (h0 : List Sp2), h0.length = n.holds.length → boxF n x many f h0 r0 = some (.box held sp r) → held.length = n.holds.length
  | 0, _, _, _, h => by cases h
  | f + 1, r0, h0, hl, h => by
    unfold boxF at h
    split at h
    · cases h
    · split at h
      · cases h
        exact hl
      · exact box_len f (r0 + 1) _ (down_len hl) h
/-- what is no stretch -/
def OddTh (H : Hp) (v : V) : Prop := v = .non ∨ (∃ p xs, v = .ref p ∧ H p = some (.lst xs)) ∨ (∃ p xs, v = .ref p ∧ H p = some (.tup xs) ∧ xs.length ≠ 2) ∨ (∃ p k, v = .ref p ∧ H p = some (.tup [.non, .int k])) ∨ ∃ p k, v = .ref p ∧ H p = some (.tup [.int k, .bl true])
/-- a thing, a stretch or none -/
def ThAt (H : Hp) (v : V) : Option Sp2 → Prop
  | some s => ∃ p, v = .ref p ∧ H p = some (.tup (spV s))
  | none => OddTh H v
theorem OddTh.map {H H' : Hp} {v : V} (h : OddTh H v) (k1 : ∀ p xs, H p = some (.lst xs) → ∃ ys, H' p = some (.lst ys)) (k2 : ∀ p xs, H p = some (.tup xs) → H' p = some (.tup xs)) : OddTh H' v := by
  rcases h with h | ⟨p, xs, e, h⟩ | ⟨p, xs, e, h, l⟩ | ⟨p, k, e, h⟩ | ⟨p, k, e, h⟩
  · exact .inl h
  · obtain ⟨ys, h2⟩ := k1 p xs h
    exact .inr (.inl ⟨p, ys, e, h2⟩)
  · exact .inr (.inr (.inl ⟨p, xs, e, k2 _ _ h, l⟩))
  · exact .inr (.inr (.inr (.inl ⟨p, k, e, k2 _ _ h⟩)))
  · exact .inr (.inr (.inr (.inr ⟨p, k, e, k2 _ _ h⟩)))
theorem ThAt.map {H H' : Hp} {v : V} {o : Option Sp2} (h : ThAt H v o) (k1 : ∀ p xs, H p = some (.lst xs) → ∃ ys, H' p = some (.lst ys)) (k2 : ∀ p xs, H p = some (.tup xs) → H' p = some (.tup xs)) : ThAt H' v o := by
  cases o with
  | none => exact OddTh.map h k1 k2
  | some s =>
    obtain ⟨p, e, h⟩ := h
    exact ⟨p, e, k2 _ _ h⟩
/-- things, one by one -/
structure OtAt (H : Hp) (vs : List V) (os : List (Option Sp2)) : Prop where
  len : vs.length = os.length
  at_ : ∀ (i : Nat) (v : V), vs[i]? = some v → ∃ o, os[i]? = some o ∧ ThAt H v o
theorem OtAt.map {H H' : Hp} {vs : List V} {os : List (Option Sp2)} (h : OtAt H vs os) (k1 : ∀ p xs, H p = some (.lst xs) → ∃ ys, H' p = some (.lst ys)) (k2 : ∀ p xs, H p = some (.tup xs) → H' p = some (.tup xs)) : OtAt H' vs os :=
  ⟨h.len, fun i v e => by
    obtain ⟨o, e2, t⟩ := h.at_ i v e
    exact ⟨o, e2, t.map k1 k2⟩⟩
theorem OtAt.same {H H' : Hp} {vs : List V} {os : List (Option Sp2)} (h : OtAt H vs os) (s : Same H H') : OtAt H' vs os := h.map (fun p xs e => ⟨xs, s _ _ e⟩) fun p xs e => s _ _ e
/-- a thing that may be a box -/
def BxAt (H : Hp) (x : V) : Option (List (Option Sp2)) → Prop
  | some os => ∃ a vs, x = .ref a ∧ H a = some (.lst vs) ∧ OtAt H vs os
  | none => x = .non ∨ (∃ z, x = .str z) ∨ ∃ p xs, x = .ref p ∧ H p = some (.tup xs)
theorem BxAt.same {H H' : Hp} {x : V} {b : Option (List (Option Sp2))} (h : BxAt H x b) (s : Same H H') : BxAt H' x b := by
  cases b with
  | none =>
    rcases h with h | h | ⟨p, xs, e, h⟩
    · exact .inl h
    · exact .inr (.inl h)
    · exact .inr (.inr ⟨p, xs, e, s _ _ h⟩)
  | some os =>
    obtain ⟨a, vs, e, h, t⟩ := h
    exact ⟨a, vs, e, s _ _ h, t.same s⟩
theorem BxAt.ext {H H' : Hp} {x : V} {b : Option (List (Option Sp2))} (h : BxAt H x b) (s : LamX.ExtN H H') : BxAt H' x b := by
  cases b with
  | none =>
    rcases h with h | h | ⟨p, xs, e, h⟩
    · exact .inl h
    · exact .inr (.inl h)
    · exact .inr (.inr ⟨p, xs, e, s _ _ h (fun _ z => nomatch z)⟩)
  | some os =>
    obtain ⟨a, vs, e, h, t⟩ := h
    exact ⟨a, vs, e, s _ _ h (fun _ z => nomatch z), t.map (fun p xs e => ⟨xs, s _ _ e (fun _ z => nomatch z)⟩) fun p xs e => s _ _ e (fun _ z => nomatch z)⟩
/-- stretches are things -/
theorem TsAt.ot {H : Hp} {vs : List V} {l : List Sp2} (h : TsAt H vs (l.map spV)) : OtAt H vs (l.map some) := by
  refine ⟨by have := h.len; rw [List.length_map] at this ⊢; exact this, fun i v e => ?_⟩
  obtain ⟨p, xs, rfl, ex, hp⟩ := h.get e
  rw [List.getElem?_map] at ex
  obtain ⟨s, es, rfl⟩ := Option.map_eq_some_iff.mp ex
  exact ⟨some s, by rw [List.getElem?_map, es]; rfl, p, rfl, hp⟩
theorem down_some : ∀ l : List Sp2, downL (l.map some) = l
  | [] => rfl
  | s :: l => by
    show s :: downL (l.map some) = s :: l
    rw [down_some l]
def isHS (w : Option Int) (k : Int) : Option Sp2 → Bool
  | none => false
  | some s => inR w s.1 && (inR w s.2 && hasIn s (k, k))
def hsL (n : NetP) (os : List (Option Sp2)) : List Bool := List.zipWith (fun (h : Hold) o => isHS (frm n.fs h.k).w h.s o) n.holds os
def clL (n : NetP) (x : Sp2) (held : List Sp2) : List Bool := List.zipWith (fun (h : Hold) s => hasIn s ((n.spans x held).getD h.l (0, 0))) n.holds held
def goodH (n : NetP) (os : List (Option Sp2)) : Bool := decide (os.length = n.holds.length) && (hsL n os).all id
def isBx (n : NetP) (x : Sp2) : Option (List (Option Sp2)) → Bool
  | none => false
  | some os => goodH n os && (clL n x (downL os)).all id
theorem hsL_at {n : NetP} {os : List (Option Sp2)} {i : Nat} {h : Hold} {o : Option Sp2} (e : n.holds[i]? = some h) (e2 : os[i]? = some o) : (hsL n os)[i]? = some (isHS (frm n.fs h.k).w h.s o) := by
  unfold hsL
  rw [List.getElem?_zipWith, e, e2]
theorem clL_at {n : NetP} {x : Sp2} {held : List Sp2} {i : Nat} {h : Hold} {s : Sp2} (e : n.holds[i]? = some h) (e2 : held[i]? = some s) : (clL n x held)[i]? = some (hasIn s ((n.spans x held).getD h.l (0, 0))) := by
  unfold clL
  rw [List.getElem?_zipWith, e, e2]
theorem hsL_len (n : NetP) (os : List (Option Sp2)) : (hsL n os).length = min n.holds.length os.length := List.length_zipWith ..
theorem clL_len (n : NetP) (x : Sp2) (held : List Sp2) : (clL n x held).length = min n.holds.length held.length := List.length_zipWith ..
/-- good ones are all stretches -/
theorem good_some {n : NetP} {os : List (Option Sp2)} (h : goodH n os = true) : os = (downL os).map some := by
  unfold goodH at h
  rw [Bool.and_eq_true, decide_eq_true_eq] at h
  obtain ⟨hl, ha⟩ := h
  rw [List.all_eq_true] at ha
  refine List.ext_getElem? fun i => ?_
  unfold downL
  rw [List.getElem?_map, List.getElem?_map]
  cases e : os[i]? with
  | none => rfl
  | some o =>
    have il := (List.getElem?_eq_some_iff.mp e).1
    have eh := List.getElem?_eq_getElem (l := n.holds) (i := i) (by omega)
    have := ha _ (List.mem_of_getElem? (hsL_at eh e))
    cases o with
    | none => exact Bool.noConfusion (show false = true from this)
    | some s => rfl
theorem OtAt.ts {H : Hp} {vs : List V} {l : List Sp2} (h : OtAt H vs (l.map some)) : TsAt H vs (l.map spV) := by
  obtain ⟨hl, ha⟩ := h
  rw [List.length_map] at hl
  induction vs generalizing l with
  | nil =>
    cases l with
    | nil => exact .nil
    | cons _ _ => cases hl
  | cons v vs ih =>
    cases l with
    | nil => cases hl
    | cons s l =>
      obtain ⟨o, e, t⟩ := ha 0 v rfl
      cases e
      obtain ⟨p, rfl, hp⟩ := t
      exact .cons hp (ih (by simpa using hl) fun i v e => ha (i + 1) v e)
def BdO (k : Nat) (os : List (Option Sp2)) : Prop := BdS k (downL os)
/-- a thing's two ends, told to be words or not -/
theorem odd_cases {K : PySem.W.Frag} {H : Hp} {v : V} (h : OddTh H v) : (∃ t : String, TyX K H v (.type t) ∧ kitB t "tuple" = some false) ∨ (∃ p xs, v = .ref p ∧ H p = some (.tup xs) ∧ xs.length ≠ 2) ∨ (∃ p k, v = .ref p ∧ H p = some (.tup [.non, .int k])) ∨ ∃ p k, v = .ref p ∧ H p = some (.tup [.int k, .bl true]) := by
  rcases h with rfl | ⟨p, xs, rfl, h⟩ | h | h | h
  · exact .inl ⟨_, .base .non, by decide +kernel⟩
  · exact .inl ⟨_, .base (.lst h), by decide +kernel⟩
  · exact .inr (.inl h)
  · exact .inr (.inr (.inl h))
  · exact .inr (.inr (.inr h))
def spIsHS6 (C : Addr) : Sp := fun vs H Q _ => ∃ (p : Addr) (v : V) (F : FormP) (w : Int) (o : Option Sp2), vs = [.ref p, .int w, v] ∧ FAt C H p F ∧ ThAt H v o ∧ ∀ H', Same H H' → Q (.bl (isHS F.w w o)) H'
def spAreHS6 (C CN : Addr) : Sp := fun vs H Q _ => ∃ (p : Addr) (v : V) (n : NetP) (b : Option (List (Option Sp2))), vs = [.ref p, v] ∧ NetAt C CN H p n ∧ BxAt H v b ∧ (∀ os, b = some os → os.length ≤ 1000) ∧ ∀ H', Same H H' → Q (.bl (match b with | none => false | some os => goodH n os)) H'
/-- what is no pair of words to look at -/
def NoEnds (K : PySem.W.Frag) (H : Hp) (w : Option Int) (x y : V) : Prop := (∀ H', Same H H' → ((∃ k, x = .int k ∧ inR w k = false) ∨ WholeIs K H' x false)) ∨ (∃ k, x = .int k ∧ inR w k = true ∧ ((∀ H', Same H H' → ((∃ j, y = .int j ∧ inR w j = false) ∨ WholeIs K H' y false)) ∨ ∃ j, y = .int j ∧ inR w j = true ∧ j < k))
theorem NoEnds.mono {K : PySem.W.Frag} {H H1 : Hp} {w : Option Int} {x y : V} (h : NoEnds K H w x y) (s : Same H H1) : NoEnds K H1 w x y := by
  rcases h with h | ⟨k, e, i, h | h⟩
  · exact .inl fun H' s' => h H' (s.trans s')
  · exact .inr ⟨k, e, i, .inl fun H' s' => h H' (s.trans s')⟩
  · exact .inr ⟨k, e, i, .inr h⟩
def spCkEndsX (K : PySem.W.Frag) (C CN CW : Addr) : Sp := fun vs H Q E => ∃ (p : Addr) (n : NetP) (x y : V), vs = [.ref p, x, y] ∧ NetAt C CN H p n ∧ ((∃ lo hi, x = .int lo ∧ y = .int hi ∧ inR (frm n.fs n.en).w lo = true ∧ inR (frm n.fs n.en).w hi = true ∧ lo ≤ hi ∧ ∀ H', Same H H' → Q .non H') ∨ (NoEnds K H (frm n.fs n.en).w x y ∧ ∀ H', Same H H' → E (.ref CW) none H'))
def spIsBox6 (C CN : Addr) : Sp := fun vs H Q _ => ∃ (p : Addr) (n : NetP) (lo hi : Int) (v : V) (b : Option (List (Option Sp2))) (k : Nat), vs = [.ref p, .int lo, .int hi, v] ∧ NetAt C CN H p n ∧ n.rows.length ≤ 26 ∧ inR (frm n.fs n.en).w lo = true ∧ inR (frm n.fs n.en).w hi = true ∧ lo ≤ hi ∧ lo.natAbs < 2 ^ 70 ∧ hi.natAbs < 2 ^ 70 ∧ BxAt H v b ∧ (∀ os, b = some os → os.length ≤ 1000 ∧ BdO k os) ∧ 70 ≤ k ∧ k + 15600 ≤ 900000 ∧ ∀ H', Same H H' → Q (.bl (isBx n (lo, hi) b)) H'
def spIsBoxX (K : PySem.W.Frag) (C CN CW : Addr) : Sp := fun vs H Q E => spIsBox6 C CN vs H Q E ∨ ∃ (p : Addr) (n : NetP) (x y v : V), vs = [.ref p, x, y, v] ∧ NetAt C CN H p n ∧ NoEnds K H (frm n.fs n.en).w x y ∧ ∀ H', Same H H' → E (.ref CW) none H'
def spMay6 (C CN : Addr) : Sp := fun vs H Q _ => ∃ (p : Addr) (n : NetP) (lo hi : Int) (v : V) (os : List (Option Sp2)) (k : Nat), vs = [.ref p, .int lo, .int hi, v] ∧ NetAt C CN H p n ∧ n.rows.length ≤ 26 ∧ inR (frm n.fs n.en).w lo = true ∧ inR (frm n.fs n.en).w hi = true ∧ lo ≤ hi ∧ lo.natAbs < 2 ^ 70 ∧ hi.natAbs < 2 ^ 70 ∧ BxAt H v (some os) ∧ isBx n (lo, hi) (some os) = true ∧ BdO k os ∧ 70 ≤ k ∧ k + 15600 ≤ 900000 ∧ ∀ l H', H l = none → Same H H' → H' l = some (.lst ((mayF n (lo, hi) (downL os)).map nI)) → Q (.ref l) H'
def spMayX (K : PySem.W.Frag) (C CN CS CW : Addr) : Sp := fun vs H _ E => ∃ (p : Addr) (n : NetP) (x y v : V), vs = [.ref p, x, y, v] ∧ NetAt C CN H p n ∧ ((∃ (lo hi : Int) (b : Option (List (Option Sp2))) (k : Nat), x = .int lo ∧ y = .int hi ∧ n.rows.length ≤ 26 ∧ inR (frm n.fs n.en).w lo = true ∧ inR (frm n.fs n.en).w hi = true ∧ lo ≤ hi ∧ lo.natAbs < 2 ^ 70 ∧ hi.natAbs < 2 ^ 70 ∧ BxAt H v b ∧ (∀ os, b = some os → os.length ≤ 1000 ∧ BdO k os) ∧ 70 ≤ k ∧ k + 15600 ≤ 900000 ∧ isBx n (lo, hi) b = false ∧ ∀ H', Same H H' → E (.ref CS) none H') ∨ (NoEnds K H (frm n.fs n.en).w x y ∧ ∀ H', Same H H' → E (.ref CW) none H'))
/-- no number of rounds -/
def NoMany6 (K : PySem.W.Frag) (H : Hp) (x : V) : Prop := (∃ i : Int, x = .int i ∧ (i < 1 ∨ 40 < i)) ∨ ∀ H', Same H H' → WholeIs K H' x false
def spBoxX6 (K : PySem.W.Frag) (C CN CW : Addr) : Sp := fun vs H _ E => ∃ (p : Addr) (n : NetP) (x y m : V), vs = [.ref p, x, y, m] ∧ NetAt C CN H p n ∧ ((NoEnds K H (frm n.fs n.en).w x y ∧ ∀ H', Same H H' → E (.ref CW) none H') ∨ (∃ lo hi, x = .int lo ∧ y = .int hi ∧ inR (frm n.fs n.en).w lo = true ∧ inR (frm n.fs n.en).w hi = true ∧ lo ≤ hi ∧ NoMany6 K H m ∧ ∀ H', Same H H' → E (.ref CW) none H'))
/-- an own error without a field -/
structure OwnX (K : PySem.W.Frag) (mg : Str → Option Value) (x : Str) (CC : Addr) : Prop where
  g : mg x = some (.ref CC)
  x : PySem.W.excIn K CC PySem.ErrX.bmA "ArithmeticError.__new__" = true
  k : PySem.W.keepIn K (.ref CC) = true
  b : PySem.W.subIn K (.ref CC) (.type "BaseException") = some true
  t : PySem.W.typeIn K (.ref CC) = some (.type "type")
theorem all_false {l : List Bool} {i : Nat} (h : l[i]? = some false) : l.all id = false := by
  rw [List.all_eq_false]
  exact ⟨false, List.mem_of_getElem? h, by decide⟩
theorem all_true {l : List Bool} (h : ∀ i, i < l.length → l[i]? = some true) : l.all id = true := by
  rw [List.all_eq_true]
  intro x hx
  obtain ⟨i, il, e⟩ := List.mem_iff_getElem.mp hx
  have := h i il
  rw [List.getElem?_eq_getElem il, e] at this
  exact Option.some.inj this
section
variable {P : Program} {w : World} {K : PySem.W.Frag} {mg : Str → Option Value} {base : Heap}
theorem sc_is_hold_stretch : FnScope ["form", "word", "thing"] ["form", "word", "thing"] (defScope s_is_hold_stretch) := ⟨rfl, rfl, rfl, by decide +kernel, rfl, by decide +kernel, by decide +kernel⟩
theorem ok_is_hold_stretch {f : Addr} {fd : FuncData} {C : Addr} (T : FTxt K mg C) (F : Fun K "is_hold_stretch" "is_hold_stretch" s_is_hold_stretch f fd) (z : Zs mg) (m_has : CalM P w K mg base 2 C "has" ["self", "thing"] (spHas K C)) (c_has_in_it : Cal P w K mg base 1 "has_in_it" ["stretch", "other"] spHasIn) : FnOk P w K mg base CX0 3 f fd ["form", "word", "thing"] (spIsHS6 C) := by
  refine F.ok sc_is_hold_stretch (fun vs H Q E h => ?_) (fun cdv A outer s H vs Q E hr h => ?_)
  · obtain ⟨p, v, FF, w, o, rfl, _⟩ := h
    rfl
  · obtain ⟨p, v, FF, w, o, rfl, hf, hth, q⟩ := h
    refine ⟨_, (pss_cons (ps_if (PW.pt (pw_or (pt_not (pt_val (pe_callB call_isi (by rfl) z.isinstance (by decide +kernel) (pa_cons (pv 2) (pa_cons (pe_bltn (v := .ty "tuple") (by rfl) z.tuple (by decide +kernel) rfl) pa_nil))))) (pw_or (pt_cmpR op_ne (pe_callB call_len_seq (by rfl) z.len PySem.boot_len (pa_cons (pv 2) pa_nil)) pe_int (nomark _)) (pw_or (pt_not (pt_val (pe_calm (pv 0) T.cl m_has hr (pa_cons (pe_ix ix_tup (pv 2) pe_int (fun _ _ => rfl)) pa_nil)))) (pw_or1 (pt_not (pt_val (pe_calm (pv 0) T.cl m_has hr (pa_cons (pe_ix ix_tup (pv 2) pe_int (fun _ _ => rfl)) pa_nil))))))))) (pss_one (ps_ret pe_bl)) pss_nil)
      (pss_one (ps_ret (pe_cal c_has_in_it hr (pa_cons (pv 2) (pa_cons (pe_tup (pa_cons (pv 1) (pa_cons (pv 1) pa_nil))) pa_nil)))))), ?_⟩
    obtain ⟨dx, ho⟩ := hf.ob
    cases o with
    | some s =>
      obtain ⟨t, rfl, ht⟩ := hth
      refine ⟨_, rfl, _, .ty "tuple", _, _, true, rfl, .ty _, .base (.tup ht), kit_ty (by decide +kernel), _, rfl, iteF ⟨_, rfl, t, _, rfl, .inr (SqT.of ht), rfl, _, rfl, iteC (d := false) rfl (iteF ?_)⟩⟩
      refine ⟨_, rfl, p, dx, _, rfl, ho, fl_no (by decide +kernel), _, rfl, t, _, 0, .int s.1, rfl, rfl, SqT.of ht, a0, p, _, _, _, _, .int s.1, _, rfl, hf, .inl ⟨s.1, rfl, rfl⟩, _, rfl, ?_⟩
      cases i1 : inR FF.w s.1 with
      | false =>
        have e : isHS FF.w w (some s) = false := by
          show (inR FF.w s.1 && (inR FF.w s.2 && hasIn s (w, w))) = false
          rw [i1]
          rfl
        rw [e] at q
        exact iteT (q _ (Same.refl _))
      | true =>
        refine iteF ⟨_, rfl, p, dx, _, rfl, ho, fl_no (by decide +kernel), _, rfl, t, _, 1, .int s.2, rfl, rfl, SqT.of ht, a1, p, _, _, _, _, .int s.2, _, rfl, hf, .inl ⟨s.2, rfl, rfl⟩, _, rfl, ?_⟩
        cases i2 : inR FF.w s.2 with
        | false =>
          have e : isHS FF.w w (some s) = false := by
            show (inR FF.w s.1 && (inR FF.w s.2 && hasIn s (w, w))) = false
            rw [i1, i2]
            rfl
          rw [e] at q
          exact iteT (q _ (Same.refl _))
        | true =>
          refine iteF ?_
          have e : isHS FF.w w (some s) = hasIn s (w, w) := by
            show (inR FF.w s.1 && (inR FF.w s.2 && hasIn s (w, w))) = hasIn s (w, w)
            rw [i1, i2]
            rfl
          rw [e] at q
          exact ⟨_, rfl, _, rfl, _, rfl, (by show 2 ≤ sizeLine; decide), fun t2 ht2 => ⟨t, t2, s, (w, w), rfl, same_new ht2 _ _ ht, upd_same, q _ (same_new ht2)⟩⟩
    | none =>
      rcases odd_cases (K := K) hth with ⟨ty, hty, kt⟩ | ⟨t, xs, rfl, ht, hne⟩ | ⟨t, k, rfl, ht⟩ | ⟨t, k, rfl, ht⟩
      · exact ⟨_, rfl, _, .ty "tuple", _, _, false, rfl, .ty _, hty, kit_ty kt, _, rfl, iteT (q _ (Same.refl _))⟩
      · exact ⟨_, rfl, _, .ty "tuple", _, _, true, rfl, .ty _, .base (.tup ht), kit_ty (by decide +kernel), _, rfl, iteF ⟨_, rfl, t, _, rfl, .inr (SqT.of ht), rfl, _, rfl, iteC (d := true) (by rw [decide_eq_false (fun z => hne (by have := V.int.inj z; omega))]; rfl) (iteT (q _ (Same.refl _)))⟩⟩
      · refine ⟨_, rfl, _, .ty "tuple", _, _, true, rfl, .ty _, .base (.tup ht), kit_ty (by decide +kernel), _, rfl, iteF ⟨_, rfl, t, _, rfl, .inr (SqT.of ht), rfl, _, rfl, iteC (d := false) rfl (iteF ?_)⟩⟩
        exact ⟨_, rfl, p, dx, _, rfl, ho, fl_no (by decide +kernel), _, rfl, t, _, 0, .non, rfl, rfl, SqT.of ht, a0, p, _, _, _, _, .non, _, rfl, hf, .inr ⟨.inr (.inr ⟨rfl, _, .base .non, by decide +kernel⟩), rfl⟩, _, rfl, iteT (q _ (Same.refl _))⟩
      · refine ⟨_, rfl, _, .ty "tuple", _, _, true, rfl, .ty _, .base (.tup ht), kit_ty (by decide +kernel), _, rfl, iteF ⟨_, rfl, t, _, rfl, .inr (SqT.of ht), rfl, _, rfl, iteC (d := false) rfl (iteF ?_)⟩⟩
        refine ⟨_, rfl, p, dx, _, rfl, ho, fl_no (by decide +kernel), _, rfl, t, _, 0, .int k, rfl, rfl, SqT.of ht, a0, p, _, _, _, _, .int k, _, rfl, hf, .inl ⟨k, rfl, rfl⟩, _, rfl, ?_⟩
        cases i1 : inR FF.w k with
        | false => exact iteT (q _ (Same.refl _))
        | true => exact iteF ⟨_, rfl, p, dx, _, rfl, ho, fl_no (by decide +kernel), _, rfl, t, _, 1, .bl true, rfl, rfl, SqT.of ht, a1, p, _, _, _, _, .bl true, _, rfl, hf, .inr ⟨.inr (.inl ⟨true, rfl, rfl⟩), rfl⟩, _, rfl, iteT (q _ (Same.refl _))⟩
theorem sc_are_hold_stretches : FnScope ["net", "thing", "holds", "forms", "hold", "stretch"] ["net", "thing"] (defScope s_are_hold_stretches) := ⟨rfl, rfl, rfl, by decide +kernel, rfl, by decide +kernel, by decide +kernel⟩
theorem ok_are_hold_stretches {f : Addr} {fd : FuncData} {C CN : Addr} (TN : NTxt K mg CN) (F : Fun K "are_hold_stretches" "are_hold_stretches" s_are_hold_stretches f fd) (z : Zs mg) (n_forms : CalM P w K mg base 1 CN "forms" ["self"] (spFormsM C CN)) (n_holds : CalM P w K mg base 1 CN "holds" ["self"] (spHoldsM C CN)) (c_is_hold_stretch : Cal P w K mg base 3 "is_hold_stretch" ["form", "word", "thing"] (spIsHS6 C)) : FnOk P w K mg base CX0 4 f fd ["net", "thing"] (spAreHS6 C CN) := by
  refine F.ok sc_are_hold_stretches (fun vs H Q E h => ?_) (fun cdv A outer s H vs Q E hr h => ?_)
  · obtain ⟨p, v, n, b, rfl, _⟩ := h
    rfl
  · obtain ⟨p, v, n, b1, rfl, hn, hbx, l1000, q⟩ := h
    refine ⟨_, (pss_cons (ps_set (i := 2) sc_are_hold_stretches.nd rfl (.inl rfl) (pe_calm0 (pv 0) TN.cl n_holds hr))
      (pss_cons (ps_if (PW.pt (pw_or (pt_not (pt_val (pe_callB call_isi (by rfl) z.isinstance (by decide +kernel) (pa_cons (pv 1) (pa_cons (pe_bltn (v := .ty "list") (by rfl) z.list (by decide +kernel) rfl) pa_nil))))) (pw_or1 (pt_cmpR op_ne (pe_callB call_len_seq (by rfl) z.len PySem.boot_len (pa_cons (pv 1) pa_nil)) (pe_callB call_len_seq (by rfl) z.len PySem.boot_len (pa_cons (pv 2) pa_nil)) (nomark _))))) (pss_one (ps_ret pe_bl)) pss_nil)
      (pss_cons (ps_set (i := 3) sc_are_hold_stretches.nd rfl (.inr rfl) (pe_calm0 (pv 0) TN.cl n_forms hr))
      (pss_one (ps_ret (pe_callB (cr_all rfl) (by rfl) z.all (by decide +kernel) (pa_cons (pe_lc (own := [("hold", 4), ("stretch", 5)]) (g := gTup K 2 (gCons (gName 4) (gCons (gName 5) gNil))) (tt := tYes) (te := (tCall (spIsHS6 C) [] E0 (tCons (tOp (rIxL K) (tVar 3) (tOp (rIxT K) (tVar 4) (tC (.int 0)))) (tCons (tOp (rIxT K) (tVar 4) (tC (.int 1))) (tCons (tVar 5) tNil))))) (by rfl) sc_are_hold_stretches.nd (RZ.pi_zipA (by rfl) z.zip (pa_cons (pv 2) (pa_cons (pv 1) pa_nil))) (blkOk_by (own := [("hold", 4), ("stretch", 5)]) (N := ["net", "thing", "holds", "forms", "hold", "stretch"]) (sc := defScope s_are_hold_stretches) (by decide +kernel)) (fun _ _ _ _ _ => by exact (pg_tup (by rfl) (pgs_cons (pg_name (i := 4) sc_are_hold_stretches.nd rfl (.inl rfl)) (pgs_cons (pg_name (i := 5) sc_are_hold_stretches.nd rfl (.inl rfl)) pgs_nil)))) (fun _ _ _ _ _ => by exact pts_nil) (fun _ _ _ _ _ => by exact (pe_cal c_is_hold_stretch hr (pa_cons (pe_ix ix_list (pv 3) (pe_ix ix_tup (pv 4) pe_int (fun _ _ => rfl)) (fun _ _ => rfl)) (pa_cons (pe_ix ix_tup (pv 4) pe_int (fun _ _ => rfl)) (pa_cons (pv 5) pa_nil)))))) pa_nil))))))), ?_⟩
    obtain ⟨ok, dx, fl, rl, hl, pl, fv, rv, hv0, b⟩ := id hn
    have h6 := ok.h2
    refine ⟨_, rfl, p, dx, _, rfl, b.ob, nl_no (by decide +kernel), p, n, rfl, hn, fun hl2 hv2 H1 hf1 s1 h_hl2 hhh => ?_⟩
    have lh := hhh.len
    rw [List.length_map] at lh
    replace hbx := hbx.same s1
    cases b1 with
    | none =>
      rcases hbx with rfl | ⟨zz, rfl⟩ | ⟨t, xs, rfl, ht⟩
      · exact ⟨_, rfl, _, .ty "list", _, _, false, rfl, .ty _, .base .non, kit_ty (by decide +kernel), _, rfl, iteT (q _ s1)⟩
      · exact ⟨_, rfl, _, .ty "list", _, _, false, rfl, .ty _, .base (.str zz), kit_ty (by decide +kernel), _, rfl, iteT (q _ s1)⟩
      · exact ⟨_, rfl, _, .ty "list", _, _, false, rfl, .ty _, .base (.tup ht), kit_ty (by decide +kernel), _, rfl, iteT (q _ s1)⟩
    | some os =>
      obtain ⟨ha, hv, rfl, hha, ot⟩ := hbx
      have lo := ot.len
      have l1k := l1000 os rfl
      replace q : ∀ H', Same H H' → Q (.bl (goodH n os)) H' := q
      refine ⟨_, rfl, _, .ty "list", _, _, true, rfl, .ty _, .base (.lst hha), kit_ty (by decide +kernel), _, rfl, iteF ⟨_, rfl, ha, _, rfl, .inl (SqL.of hha), _, rfl, hl2, _, rfl, .inl (SqL.of h_hl2), rfl, _, rfl, ?_⟩⟩
      by_cases hlen : os.length = n.holds.length
      · refine iteC (d := false) (by rw [lo, hlen, lh, decide_eq_true rfl]; rfl) (iteF ?_)
        have eg : goodH n os = (hsL n os).all id := by
          unfold goodH
          rw [decide_eq_true hlen, Bool.true_and]
        rw [eg] at q
        refine ⟨_, rfl, p, dx, _, rfl, s1 _ _ b.ob, nl_no (by decide +kernel), p, n, rfl, hn.same s1, fun fl2 fv2 H2 hf2 s2 h_fl2 hff => ?_⟩
        have SH := s1.trans s2
        have hha2 := s2 _ _ hha
        have hhl2 := s2 _ _ h_hl2
        refine ⟨_, rfl, _, rfl, hl2, ha, _, _, rfl, .inl ⟨SqL.of hhl2, SqL.of hha2, fun D hD => ?_⟩⟩
        refine lc_it (walk_zip (K := K) (a := hl2) (b := ha) (xs := hv2) (ys := hv) rfl) (fun i G => Same H2 G ∧ G D = some (.lst (((hsL n os).take i).map V.bl))) ⟨same_new hD, upd_same⟩ (fun i G _ hP => ⟨SqL.of (hP.1 _ _ hhl2), SqL.of (hP.1 _ _ hha2)⟩) (fun i x2 G G' hj hP hY => ?_) (fun G hP => ?_)
        · obtain ⟨s3, hd⟩ := hP
          obtain ⟨Tp, u, v, rfl, nT, rfl, e1, e2⟩ := hY
          replace e1 : hv2[i]? = some u := e1
          replace e2 : hv[i]? = some v := e2
          obtain ⟨hp, xs, rfl, ex, hhp⟩ := hhh.get e1
          rw [List.getElem?_map] at ex
          obtain ⟨hh, eh, rfl⟩ := Option.map_eq_some_iff.mp ex
          obtain ⟨oo, eo, hth⟩ := ot.at_ i v e2
          obtain ⟨kl, _, xb, exb⟩ := ok.ho hh (List.mem_of_getElem? eh)
          have il := (List.getElem?_eq_some_iff.mp eh).1
          have sN := same_new (o := .tup [.ref hp, v]) nT
          have S3 := s3.trans sN
          have hhp3 := S3 _ _ (s2 _ _ hhp)
          have hth3 := hth.map (fun p xs e => ⟨xs, (s2.trans S3) _ _ e⟩) (fun p xs e => (s2.trans S3) _ _ e)
          obtain ⟨fp, efp, hfp⟩ := hff.frm kl
          have ffp := FormAt.same hfp S3
          refine ⟨Tp, _, rfl, SqT.of upd_same, rfl, _, _, rfl, _, _, rfl, rfl, rfl, ?_⟩
          refine ⟨_, rfl, _, rfl, hp, _, 0, .int hh.k, rfl, rfl, SqT.of hhp3, a0, fl2, _, _, .ref fp, rfl, rfl, SqL.of (S3 _ _ h_fl2), atI_nat efp, _, rfl, hp, _, 1, .int hh.s, rfl, rfl, SqT.of hhp3, a1, _, rfl, fp, v, frm n.fs hh.k, hh.s, oo, rfl, ffp, hth3, fun G4 s4 => ?_⟩
          refine ⟨_, s4 _ _ (sN _ _ hd), ?_, fun c o e => ?_, ?_⟩
          · rw [List.length_map, List.length_take]
            exact sl_lt (by omega)
          · rw [upd_ne (ne_of_none e hD)]
            exact s4 _ _ (S3 _ _ e)
          · rw [upd_same, List.take_add_one, hsL_at eh eo, List.map_append]
            rfl
        · obtain ⟨s3, hd⟩ := hP
          have em : min hv2.length hv.length = (hsL n os).length := by
            rw [hsL_len]
            omega
          rw [em, List.take_length] at hd
          exact ⟨D, _, rfl, SqL.of hd, q _ (SH.trans s3)⟩
      · refine iteC (d := true) (by rw [decide_eq_false (fun z => hlen (by have := V.int.inj z; omega))]; rfl) (iteT ?_)
        have eg : goodH n os = false := by
          unfold goodH
          rw [decide_eq_false hlen, Bool.false_and]
        rw [eg] at q
        exact q _ s1
end
end E1

namespace E1
open PySem PySem.Spec PyProof.Rows L2

section
variable {P : Program} {w : World} {K : PySem.W.Frag} {mg : Str → Option Value} {base : Heap}
theorem ok_check_endsX {f : Addr} {fd : FuncData} {C CN : Addr} {CW : Addr} (NW : OwnX K mg "NoWords" CW) (T : FTxt K mg C) (F : Fun K "check_ends" "check_ends" s_check_ends f fd) (c_enter_form : Cal P w K mg base 2 "enter_form" ["net"] (spEnterForm C CN)) (m_has : CalM P w K mg base 2 C "has" ["self", "thing"] (spHas K C)) : FnOk P w K mg base (L2.CX P w) 3 f fd ["net", "low", "high"] (spCkEndsX K C CN CW) := by
  refine F.okX sc_check_ends (fun vs H Q E h => ?_) (fun cdv A outer s H vs Q E hr h => ?_)
  · obtain ⟨p, n, x, y, rfl, _⟩ := h
    rfl
  · obtain ⟨p, n, x, y, rfl, hn, h⟩ := h
    refine ⟨_, (pss_cons (ps_set (i := 3) sc_check_ends.nd rfl (.inl rfl) (pe_cal c_enter_form hr (pa_cons (pv 0) pa_nil)))
      (pss_one (ps_if (PW.pt (pw_or (pt_not (pt_val (pe_calm (pv 3) T.cl m_has hr (pa_cons (pv 1) pa_nil)))) (pw_or (pt_not (pt_val (pe_calm (pv 3) T.cl m_has hr (pa_cons (pv 2) pa_nil)))) (pw_or1 (pt_cmpR op_gt (pv 1) (pv 2) (nomark _)))))) (pss_one (ps_raise rfl (takes_of rfl rfl rfl rfl) (pmk_own PySem.F.excBase_ArithmeticError NW.x NW.g NW.k (raises_own NW.b NW.t) rfl))) pss_nil))), ?_⟩
    refine ⟨_, rfl, p, n, rfl, hn, fun p2 H1 s1 hf => ?_⟩
    obtain ⟨dx2, ho2⟩ := hf.ob
    have bad : ∀ v : V, (∀ H', Same H H' → ((∃ k, v = .int k ∧ inR (frm n.fs n.en).w k = false) ∨ WholeIs K H' v false)) → (∃ i, v = .int i ∧ false = inR (frm n.fs n.en).w i) ∨ (WholeIs K H1 v false ∧ false = false) := fun v hv => by
      rcases hv _ s1 with ⟨k, e, i⟩ | h
      · exact .inl ⟨k, e, i.symm⟩
      · exact .inr ⟨h, rfl⟩
    rcases h with ⟨lo, hi, rfl, rfl, i1, i2, le, q⟩ | ⟨hx | ⟨k, rfl, i1, hy | ⟨j, rfl, i2, lt⟩⟩, q⟩
    · refine ⟨_, rfl, p2, dx2, _, rfl, ho2, fl_no (by decide +kernel), _, rfl, p2, _, _, _, _, .int lo, _, rfl, hf, .inl ⟨lo, rfl, rfl⟩, _, rfl, ?_⟩
      rw [i1]
      refine iteF ⟨_, rfl, p2, dx2, _, rfl, ho2, fl_no (by decide +kernel), _, rfl, p2, _, _, _, _, .int hi, _, rfl, hf, .inl ⟨hi, rfl, rfl⟩, _, rfl, ?_⟩
      rw [i2]
      exact iteF ⟨_, rfl, _, rfl, _, _, rfl, rfl, _, rfl, iteC (d := false) (decide_eq_false (by omega)) (iteF (q _ s1))⟩
    · exact ⟨_, rfl, p2, dx2, _, rfl, ho2, fl_no (by decide +kernel), _, rfl, p2, _, _, _, _, x, _, rfl, hf, bad x hx, _, rfl, iteT (q _ s1)⟩
    · refine ⟨_, rfl, p2, dx2, _, rfl, ho2, fl_no (by decide +kernel), _, rfl, p2, _, _, _, _, .int k, _, rfl, hf, .inl ⟨k, rfl, rfl⟩, _, rfl, ?_⟩
      rw [i1]
      exact iteF ⟨_, rfl, p2, dx2, _, rfl, ho2, fl_no (by decide +kernel), _, rfl, p2, _, _, _, _, y, _, rfl, hf, bad y hy, _, rfl, iteT (q _ s1)⟩
    · refine ⟨_, rfl, p2, dx2, _, rfl, ho2, fl_no (by decide +kernel), _, rfl, p2, _, _, _, _, .int k, _, rfl, hf, .inl ⟨k, rfl, rfl⟩, _, rfl, ?_⟩
      rw [i1]
      refine iteF ⟨_, rfl, p2, dx2, _, rfl, ho2, fl_no (by decide +kernel), _, rfl, p2, _, _, _, _, .int j, _, rfl, hf, .inl ⟨j, rfl, rfl⟩, _, rfl, ?_⟩
      rw [i2]
      exact iteF ⟨_, rfl, _, rfl, _, _, rfl, rfl, _, rfl, iteC (d := true) (decide_eq_true (by omega)) (iteT (q _ s1))⟩
theorem sc_is_box : FnScope ["net", "low", "high", "holds", "stretches", "hold", "own"] ["net", "low", "high", "holds"] (defScope s_is_box) := ⟨rfl, rfl, rfl, by decide +kernel, rfl, by decide +kernel, by decide +kernel⟩
theorem ok_is_box {f : Addr} {fd : FuncData} {C CN fR : Addr} (gR : mg "stretch_of_row" = some (.ref fR)) (TN : NTxt K mg CN) (F : Fun K "is_box" "is_box" s_is_box f fd) (z : Zs mg) (n_holds : CalM P w K mg base 1 CN "holds" ["self"] (spHoldsM C CN)) (c_check_ends : Cal P w K mg base 3 "check_ends" ["net", "low", "high"] (spCkEnds C CN)) (c_are_hold_stretches : Cal P w K mg base 4 "are_hold_stretches" ["net", "thing"] (spAreHS6 C CN)) (c_swept : Cal P w K mg base 9 "swept" ["net", "heard", "held", "rule"] (spSweptS C CN fR)) (c_has_in_it : Cal P w K mg base 1 "has_in_it" ["stretch", "other"] spHasIn) : FnOk P w K mg base CX0 10 f fd ["net", "low", "high", "holds"] (spIsBox6 C CN) := by
  refine F.ok sc_is_box (fun vs H Q E h => ?_) (fun cdv A outer s H vs Q E hr h => ?_)
  · obtain ⟨p, n, lo, hi, v, b1, k, rfl, _⟩ := h
    rfl
  · obtain ⟨p, n, lo, hi, v, b1, k, rfl, hn, l26, i1, i2, le, z1, z2, hbx, hos, k70, kb, q⟩ := h
    refine ⟨_, (pss_cons (ps_expr (pe_cal c_check_ends hr (pa_cons (pv 0) (pa_cons (pv 1) (pa_cons (pv 2) pa_nil)))))
      (pss_cons (ps_if (pt_not (pt_val (pe_cal c_are_hold_stretches hr (pa_cons (pv 0) (pa_cons (pv 3) pa_nil))))) (pss_one (ps_ret pe_bl)) pss_nil)
      (pss_cons (ps_set (i := 4) sc_is_box.nd rfl (.inr rfl) (pe_cal c_swept hr (pa_cons (pv 0) (pa_cons (pe_tup (pa_cons (pv 1) (pa_cons (pv 2) pa_nil))) (pa_cons (pv 3) (pa_cons (pe_glob (v := .ref fR) (by rfl) gR rfl) pa_nil))))))
      (pss_one (ps_ret (pe_callB (cr_all rfl) (by rfl) z.all (by decide +kernel) (pa_cons (pe_lc (own := [("hold", 5), ("own", 6)]) (g := gTup K 2 (gCons (gName 5) (gCons (gName 6) gNil))) (tt := tYes) (te := (tCall spHasIn [] E0 (tCons (tVar 6) (tCons (tOp (rIxL K) (tVar 4) (tOp (rIxT K) (tVar 5) (tC (.int 2)))) tNil)))) (by rfl) sc_is_box.nd (RZ.pi_zipA (by rfl) z.zip (pa_cons (pe_calm0 (pv 0) TN.cl n_holds hr) (pa_cons (pv 3) pa_nil))) (blkOk_by (own := [("hold", 5), ("own", 6)]) (N := ["net", "low", "high", "holds", "stretches", "hold", "own"]) (sc := defScope s_is_box) (by decide +kernel)) (fun _ _ _ _ _ => by exact (pg_tup (by rfl) (pgs_cons (pg_name (i := 5) sc_is_box.nd rfl (.inl rfl)) (pgs_cons (pg_name (i := 6) sc_is_box.nd rfl (.inl rfl)) pgs_nil)))) (fun _ _ _ _ _ => by exact pts_nil) (fun _ _ _ _ _ => by exact (pe_cal c_has_in_it hr (pa_cons (pv 6) (pa_cons (pe_ix ix_list (pv 4) (pe_ix ix_tup (pv 5) pe_int (fun _ _ => rfl)) (fun _ _ => rfl)) pa_nil))))) pa_nil))))))), ?_⟩
    obtain ⟨ok, dx, fl, rl, hl, pl, fv, rv, hv0, b⟩ := id hn
    have h6 := ok.h2
    refine ⟨_, rfl, _, rfl, _, rfl, p, n, lo, hi, rfl, hn, i1, i2, le, fun H1 s1 => ?_⟩
    refine ⟨_, rfl, _, rfl, p, v, n, b1, rfl, hn.same s1, hbx.same s1, fun os e => (hos os e).1, fun H2 s2 => ⟨_, rfl, ?_⟩⟩
    have S2 := s1.trans s2
    cases b1 with
    | none => exact iteT (q _ S2)
    | some os =>
      obtain ⟨ha, hv, rfl, hha, ot⟩ := hbx
      show if (!goodH n os) = true then _ else _
      cases gd : goodH n os with
      | false =>
        have e : isBx n (lo, hi) (some os) = false := by
          show (goodH n os && _) = false
          rw [gd, Bool.false_and]
        rw [e] at q
        exact iteT (q _ S2)
      | true =>
        have e : isBx n (lo, hi) (some os) = (clL n (lo, hi) (downL os)).all id := by
          show (goodH n os && _) = _
          rw [gd, Bool.true_and]
        rw [e] at q
        have eos := good_some gd
        rw [eos] at ot
        have th := ot.ts
        have bdh := (hos os rfl).2
        unfold BdO at bdh
        have lbo : (downL os).length = n.holds.length := by
          unfold goodH at gd
          rw [Bool.and_eq_true, decide_eq_true_eq] at gd
          unfold downL
          rw [List.length_map]
          exact gd.1
        generalize downL os = held at *
        have lth := th.len
        rw [List.length_map] at lth
        refine iteF ?_
        refine ⟨_, rfl, _, rfl, _, rfl, (by show 2 ≤ sizeLine; decide), fun xa hxa => ?_⟩
        generalize hGx : upd _ xa _ = G4
        obtain ⟨s4, h_xa⟩ := upd_gen hGx hxa
        have S4 := S2.trans s4
        refine ⟨_, rfl, p, xa, ha, n, (lo, hi), held, hv, k, rfl, hn.same S4, l26, h_xa, S4 _ _ hha, th.same S4, lbo, k70, kb, ⟨up z1 (by omega), up z2 (by omega)⟩, bdh, fun sl sv G5 sl0 s5 h_sl tsl => ?_⟩
        have S5 := S4.trans s5
        refine ⟨_, rfl, p, dx, _, rfl, S5 _ _ b.ob, nl_no (by decide +kernel), p, n, rfl, hn.same S5, fun hl2 hv2 H6 hf6 s6 h_hl2 hhh => ?_⟩
        have lh := hhh.len
        rw [List.length_map] at lh
        have SH := S5.trans s6
        have hha2 := SH _ _ hha
        have hhl2 := h_hl2
        refine ⟨_, rfl, hl2, ha, _, _, rfl, .inl ⟨SqL.of hhl2, SqL.of hha2, fun D hD => ?_⟩⟩
        refine lc_it (walk_zip (K := K) (a := hl2) (b := ha) (xs := hv2) (ys := hv) rfl) (fun i G => Same H6 G ∧ G D = some (.lst (((clL n (lo, hi) held).take i).map V.bl))) ⟨same_new hD, upd_same⟩ (fun i G _ hP => ⟨SqL.of (hP.1 _ _ hhl2), SqL.of (hP.1 _ _ hha2)⟩) (fun i x2 G G' hj hP hY => ?_) (fun G hP => ?_)
        · obtain ⟨s3, hd⟩ := hP
          obtain ⟨Tp, u, v, rfl, nT, rfl, e1, e2⟩ := hY
          replace e1 : hv2[i]? = some u := e1
          replace e2 : hv[i]? = some v := e2
          obtain ⟨hp, xs, rfl, ex, hhp⟩ := hhh.get e1
          obtain ⟨op, ys, rfl, ey, hop⟩ := th.get e2
          rw [List.getElem?_map] at ex ey
          obtain ⟨hh, eh, rfl⟩ := Option.map_eq_some_iff.mp ex
          obtain ⟨og, eo, rfl⟩ := Option.map_eq_some_iff.mp ey
          obtain ⟨kl, _, xb, exb⟩ := ok.ho hh (List.mem_of_getElem? eh)
          have il := (List.getElem?_eq_some_iff.mp eh).1
          have sN := same_new (o := .tup [.ref hp, .ref op]) nT
          have S3 := s3.trans sN
          have hhp3 := S3 _ _ hhp
          have hop3 := S3 _ _ (SH _ _ hop)
          have ll : hh.l < (n.spans (lo, hi) held).length := by
            rw [spans_len]
            exact (List.getElem?_eq_some_iff.mp exb).1
          obtain ⟨qs, es, hqs⟩ := spans_at tsl ll
          refine ⟨Tp, _, rfl, SqT.of upd_same, rfl, _, _, rfl, _, _, rfl, rfl, rfl, ?_⟩
          refine ⟨_, rfl, _, rfl, _, rfl, hp, _, 2, .int hh.l, rfl, rfl, SqT.of hhp3, a2, sl, _, _, .ref qs, rfl, rfl, SqL.of (S3 _ _ (s6 _ _ h_sl)), atI_nat es, op, qs, og, _, rfl, hop3, S3 _ _ (s6 _ _ hqs), ?_⟩
          refine ⟨_, sN _ _ hd, ?_, fun c o e => ?_, ?_⟩
          · rw [List.length_map, List.length_take]
            exact sl_lt (by omega)
          · rw [upd_ne (ne_of_none e hD)]
            exact S3 _ _ e
          · rw [upd_same, List.take_add_one, clL_at eh eo, List.map_append]
            rfl
        · obtain ⟨s3, hd⟩ := hP
          have em : min hv2.length hv.length = (clL n (lo, hi) held).length := by
            rw [clL_len]
            omega
          rw [em, List.take_length] at hd
          exact ⟨D, _, rfl, SqL.of hd, q _ (SH.trans s3)⟩
theorem ok_is_boxX {f : Addr} {fd : FuncData} {C CN fR : Addr} (gR : mg "stretch_of_row" = some (.ref fR)) (TN : NTxt K mg CN) {CW : Addr} (NW : OwnX K mg "NoWords" CW) (F : Fun K "is_box" "is_box" s_is_box f fd) (z : Zs mg) (n_holds : CalM P w K mg base 1 CN "holds" ["self"] (spHoldsM C CN)) (c_check_ends : CalX P w K mg base 3 "check_ends" ["net", "low", "high"] [] (spCkEndsX K C CN CW)) (c_are_hold_stretches : Cal P w K mg base 4 "are_hold_stretches" ["net", "thing"] (spAreHS6 C CN)) (c_swept : Cal P w K mg base 9 "swept" ["net", "heard", "held", "rule"] (spSweptS C CN fR)) (c_has_in_it : Cal P w K mg base 1 "has_in_it" ["stretch", "other"] spHasIn) : FnOk P w K mg base (L2.CX P w) 10 f fd ["net", "low", "high", "holds"] (spIsBoxX K C CN CW) := by
  refine F.okX sc_is_box (fun vs H Q E h => ?_) (fun cdv A outer s H vs Q E hr h => ?_)
  · rcases h with ⟨p, n, lo, hi, v, b1, k, rfl, _⟩ | ⟨p, n, x, y, v, rfl, _⟩
    · rfl
    · rfl
  · rcases h with ⟨p, n, lo, hi, v, b1, k, rfl, hn, l26, i1, i2, le, z1, z2, hbx, hos, k70, kb, q⟩ | ⟨p, n, x, y, v, rfl, hn, hne, q⟩
    · refine ⟨_, (pss_cons (ps_expr (pe_calxS c_check_ends hr (takes_of rfl rfl rfl rfl) (pa_cons (pv 0) (pa_cons (pv 1) (pa_cons (pv 2) pa_nil)))))
      (pss_cons (ps_if (pt_not (pt_val (pe_cal c_are_hold_stretches hr (pa_cons (pv 0) (pa_cons (pv 3) pa_nil))))) (pss_one (ps_ret pe_bl)) pss_nil)
      (pss_cons (ps_set (i := 4) sc_is_box.nd rfl (.inr rfl) (pe_cal c_swept hr (pa_cons (pv 0) (pa_cons (pe_tup (pa_cons (pv 1) (pa_cons (pv 2) pa_nil))) (pa_cons (pv 3) (pa_cons (pe_glob (v := .ref fR) (by rfl) gR rfl) pa_nil))))))
      (pss_one (ps_ret (pe_callB (cr_all rfl) (by rfl) z.all (by decide +kernel) (pa_cons (pe_lc (own := [("hold", 5), ("own", 6)]) (g := gTup K 2 (gCons (gName 5) (gCons (gName 6) gNil))) (tt := tYes) (te := (tCall spHasIn [] E0 (tCons (tVar 6) (tCons (tOp (rIxL K) (tVar 4) (tOp (rIxT K) (tVar 5) (tC (.int 2)))) tNil)))) (by rfl) sc_is_box.nd (RZ.pi_zipA (by rfl) z.zip (pa_cons (pe_calm0 (pv 0) TN.cl n_holds hr) (pa_cons (pv 3) pa_nil))) (blkOk_by (own := [("hold", 5), ("own", 6)]) (N := ["net", "low", "high", "holds", "stretches", "hold", "own"]) (sc := defScope s_is_box) (by decide +kernel)) (fun _ _ _ _ _ => by exact (pg_tup (by rfl) (pgs_cons (pg_name (i := 5) sc_is_box.nd rfl (.inl rfl)) (pgs_cons (pg_name (i := 6) sc_is_box.nd rfl (.inl rfl)) pgs_nil)))) (fun _ _ _ _ _ => by exact pts_nil) (fun _ _ _ _ _ => by exact (pe_cal c_has_in_it hr (pa_cons (pv 6) (pa_cons (pe_ix ix_list (pv 4) (pe_ix ix_tup (pv 5) pe_int (fun _ _ => rfl)) (fun _ _ => rfl)) pa_nil))))) pa_nil))))))), ?_⟩
      obtain ⟨ok, dx, fl, rl, hl, pl, fv, rv, hv0, b⟩ := id hn
      have h6 := ok.h2
      refine ⟨_, rfl, _, rfl, _, rfl, p, n, _, _, rfl, hn, .inl ⟨lo, hi, rfl, rfl, i1, i2, le, fun H1 s1 => ?_⟩⟩
      refine ⟨_, rfl, _, rfl, p, v, n, b1, rfl, hn.same s1, hbx.same s1, fun os e => (hos os e).1, fun H2 s2 => ⟨_, rfl, ?_⟩⟩
      have S2 := s1.trans s2
      cases b1 with
      | none => exact iteT (q _ S2)
      | some os =>
        obtain ⟨ha, hv, rfl, hha, ot⟩ := hbx
        show if (!goodH n os) = true then _ else _
        cases gd : goodH n os with
        | false =>
          have e : isBx n (lo, hi) (some os) = false := by
            show (goodH n os && _) = false
            rw [gd, Bool.false_and]
          rw [e] at q
          exact iteT (q _ S2)
        | true =>
          have e : isBx n (lo, hi) (some os) = (clL n (lo, hi) (downL os)).all id := by
            show (goodH n os && _) = _
            rw [gd, Bool.true_and]
          rw [e] at q
          have eos := good_some gd
          rw [eos] at ot
          have th := ot.ts
          have bdh := (hos os rfl).2
          unfold BdO at bdh
          have lbo : (downL os).length = n.holds.length := by
            unfold goodH at gd
            rw [Bool.and_eq_true, decide_eq_true_eq] at gd
            unfold downL
            rw [List.length_map]
            exact gd.1
          generalize downL os = held at *
          have lth := th.len
          rw [List.length_map] at lth
          refine iteF ?_
          refine ⟨_, rfl, _, rfl, _, rfl, (by show 2 ≤ sizeLine; decide), fun xa hxa => ?_⟩
          generalize hGx : upd _ xa _ = G4
          obtain ⟨s4, h_xa⟩ := upd_gen hGx hxa
          have S4 := S2.trans s4
          refine ⟨_, rfl, p, xa, ha, n, (lo, hi), held, hv, k, rfl, hn.same S4, l26, h_xa, S4 _ _ hha, th.same S4, lbo, k70, kb, ⟨up z1 (by omega), up z2 (by omega)⟩, bdh, fun sl sv G5 sl0 s5 h_sl tsl => ?_⟩
          have S5 := S4.trans s5
          refine ⟨_, rfl, p, dx, _, rfl, S5 _ _ b.ob, nl_no (by decide +kernel), p, n, rfl, hn.same S5, fun hl2 hv2 H6 hf6 s6 h_hl2 hhh => ?_⟩
          have lh := hhh.len
          rw [List.length_map] at lh
          have SH := S5.trans s6
          have hha2 := SH _ _ hha
          have hhl2 := h_hl2
          refine ⟨_, rfl, hl2, ha, _, _, rfl, .inl ⟨SqL.of hhl2, SqL.of hha2, fun D hD => ?_⟩⟩
          refine lc_it (walk_zip (K := K) (a := hl2) (b := ha) (xs := hv2) (ys := hv) rfl) (fun i G => Same H6 G ∧ G D = some (.lst (((clL n (lo, hi) held).take i).map V.bl))) ⟨same_new hD, upd_same⟩ (fun i G _ hP => ⟨SqL.of (hP.1 _ _ hhl2), SqL.of (hP.1 _ _ hha2)⟩) (fun i x2 G G' hj hP hY => ?_) (fun G hP => ?_)
          · obtain ⟨s3, hd⟩ := hP
            obtain ⟨Tp, u, v, rfl, nT, rfl, e1, e2⟩ := hY
            replace e1 : hv2[i]? = some u := e1
            replace e2 : hv[i]? = some v := e2
            obtain ⟨hp, xs, rfl, ex, hhp⟩ := hhh.get e1
            obtain ⟨op, ys, rfl, ey, hop⟩ := th.get e2
            rw [List.getElem?_map] at ex ey
            obtain ⟨hh, eh, rfl⟩ := Option.map_eq_some_iff.mp ex
            obtain ⟨og, eo, rfl⟩ := Option.map_eq_some_iff.mp ey
            obtain ⟨kl, _, xb, exb⟩ := ok.ho hh (List.mem_of_getElem? eh)
            have il := (List.getElem?_eq_some_iff.mp eh).1
            have sN := same_new (o := .tup [.ref hp, .ref op]) nT
            have S3 := s3.trans sN
            have hhp3 := S3 _ _ hhp
            have hop3 := S3 _ _ (SH _ _ hop)
            have ll : hh.l < (n.spans (lo, hi) held).length := by
              rw [spans_len]
              exact (List.getElem?_eq_some_iff.mp exb).1
            obtain ⟨qs, es, hqs⟩ := spans_at tsl ll
            refine ⟨Tp, _, rfl, SqT.of upd_same, rfl, _, _, rfl, _, _, rfl, rfl, rfl, ?_⟩
            refine ⟨_, rfl, _, rfl, _, rfl, hp, _, 2, .int hh.l, rfl, rfl, SqT.of hhp3, a2, sl, _, _, .ref qs, rfl, rfl, SqL.of (S3 _ _ (s6 _ _ h_sl)), atI_nat es, op, qs, og, _, rfl, hop3, S3 _ _ (s6 _ _ hqs), ?_⟩
            refine ⟨_, sN _ _ hd, ?_, fun c o e => ?_, ?_⟩
            · rw [List.length_map, List.length_take]
              exact sl_lt (by omega)
            · rw [upd_ne (ne_of_none e hD)]
              exact S3 _ _ e
            · rw [upd_same, List.take_add_one, clL_at eh eo, List.map_append]
              rfl
          · obtain ⟨s3, hd⟩ := hP
            have em : min hv2.length hv.length = (clL n (lo, hi) held).length := by
              rw [clL_len]
              omega
            rw [em, List.take_length] at hd
            exact ⟨D, _, rfl, SqL.of hd, q _ (SH.trans s3)⟩
    · refine ⟨_, (pss_cons (ps_expr (pe_calxS c_check_ends hr (takes_of rfl rfl rfl rfl) (pa_cons (pv 0) (pa_cons (pv 1) (pa_cons (pv 2) pa_nil)))))
      (pss_cons (ps_if (pt_not (pt_val (pe_cal c_are_hold_stretches hr (pa_cons (pv 0) (pa_cons (pv 3) pa_nil))))) (pss_one (ps_ret pe_bl)) pss_nil)
      (pss_cons (ps_set (i := 4) sc_is_box.nd rfl (.inr rfl) (pe_cal c_swept hr (pa_cons (pv 0) (pa_cons (pe_tup (pa_cons (pv 1) (pa_cons (pv 2) pa_nil))) (pa_cons (pv 3) (pa_cons (pe_glob (v := .ref fR) (by rfl) gR rfl) pa_nil))))))
      (pss_one (ps_ret (pe_callB (cr_all rfl) (by rfl) z.all (by decide +kernel) (pa_cons (pe_lc (own := [("hold", 5), ("own", 6)]) (g := gTup K 2 (gCons (gName 5) (gCons (gName 6) gNil))) (tt := tYes) (te := (tCall spHasIn [] E0 (tCons (tVar 6) (tCons (tOp (rIxL K) (tVar 4) (tOp (rIxT K) (tVar 5) (tC (.int 2)))) tNil)))) (by rfl) sc_is_box.nd (RZ.pi_zipA (by rfl) z.zip (pa_cons (pe_calm0 (pv 0) TN.cl n_holds hr) (pa_cons (pv 3) pa_nil))) (blkOk_by (own := [("hold", 5), ("own", 6)]) (N := ["net", "low", "high", "holds", "stretches", "hold", "own"]) (sc := defScope s_is_box) (by decide +kernel)) (fun _ _ _ _ _ => by exact (pg_tup (by rfl) (pgs_cons (pg_name (i := 5) sc_is_box.nd rfl (.inl rfl)) (pgs_cons (pg_name (i := 6) sc_is_box.nd rfl (.inl rfl)) pgs_nil)))) (fun _ _ _ _ _ => by exact pts_nil) (fun _ _ _ _ _ => by exact (pe_cal c_has_in_it hr (pa_cons (pv 6) (pa_cons (pe_ix ix_list (pv 4) (pe_ix ix_tup (pv 5) pe_int (fun _ _ => rfl)) (fun _ _ => rfl)) pa_nil))))) pa_nil))))))), ?_⟩
      exact ⟨_, rfl, _, rfl, _, rfl, p, n, x, y, rfl, hn, .inr ⟨hne, q⟩⟩
theorem sc_may_over : FnScope ["net", "low", "high", "holds", "forms", "points", "rows", "stretches", "told", "at", "word", "form", "kept"] ["net", "low", "high", "holds"] (defScope s_may_over) := ⟨rfl, rfl, rfl, by decide +kernel, rfl, by decide +kernel, by decide +kernel⟩
theorem ok_may_over {f : Addr} {fd : FuncData} {C CN fR : Addr} (gR : mg "stretch_of_row" = some (.ref fR)) (TN : NTxt K mg CN) (F : Fun K "may_over" "may_over" s_may_over f fd) (z : Zs mg) (n_forms : CalM P w K mg base 1 CN "forms" ["self"] (spFormsM C CN)) (n_points : CalM P w K mg base 1 CN "points" ["self"] (spPtsM C CN)) (n_rows : CalM P w K mg base 1 CN "rows" ["self"] (spRowsM C CN)) (n_keeps : CalM P w K mg base 1 CN "keeps" ["self"] (spKeepsM C CN)) (c_is_box : Cal P w K mg base 10 "is_box" ["net", "low", "high", "holds"] (spIsBox6 C CN)) (c_swept : Cal P w K mg base 9 "swept" ["net", "heard", "held", "rule"] (spSweptS C CN fR)) (c_ends_kept : Cal P w K mg base 6 "ends_kept" ["form", "stretch", "point"] (spEndsK C)) (c_is_over : Cal P w K mg base 1 "is_over" ["ends"] spIsOver) : FnOk P w K mg base CX0 11 f fd ["net", "low", "high", "holds"] (spMay6 C CN) := by
  refine F.ok sc_may_over (fun vs H Q E h => ?_) (fun cdv A outer s H vs Q E hr h => ?_)
  · obtain ⟨p, n, lo, hi, v0, os, k, rfl, _⟩ := h
    rfl
  · obtain ⟨p, n, lo, hi, v0, os, k, rfl, hn, l26, i1, i2, le, z1, z2, hbx, hib, bdo, k70, kb, q⟩ := h
    refine ⟨_, (pss_cons (ps_if (pt_not (pt_val (pe_cal c_is_box hr (pa_cons (pv 0) (pa_cons (pv 1) (pa_cons (pv 2) (pa_cons (pv 3) pa_nil))))))) (pss_one ps_never) pss_nil)
      (pss_cons (ps_set (i := 4) sc_may_over.nd rfl (.inl rfl) (pe_calm0 (pv 0) TN.cl n_forms hr))
      (pss_cons (ps_set (i := 5) sc_may_over.nd rfl (.inl rfl) (pe_calm0 (pv 0) TN.cl n_points hr))
      (pss_cons (ps_set (i := 6) sc_may_over.nd rfl (.inl rfl) (pe_calm0 (pv 0) TN.cl n_rows hr))
      (pss_cons (ps_set (i := 7) sc_may_over.nd rfl (.inl rfl) (pe_cal c_swept hr (pa_cons (pv 0) (pa_cons (pe_tup (pa_cons (pv 1) (pa_cons (pv 2) pa_nil))) (pa_cons (pv 3) (pa_cons (pe_glob (v := .ref fR) (by rfl) gR rfl) pa_nil))))))
      (pss_cons (ps_set (i := 8) sc_may_over.nd rfl (.inl rfl) (pe_lst pa_nil))
      (pss_cons (ps_for PassesOwn.never rfl (pi_list (pe_calm0 (pv 0) TN.cl n_keeps hr)) (pg_name (i := 9) sc_may_over.nd rfl (.inl rfl)) (pss_cons (ps_asg (pe_ix ix_list (pv 6) (pv 9) (fun _ _ => rfl)) (pg_tup (by rfl) (pgs_cons (pg_name (i := 10) sc_may_over.nd rfl (.inl rfl)) (pgs_cons (pg_name (i := 11) sc_may_over.nd rfl (.inl rfl)) (pgs_cons (pg_name (i := 12) sc_may_over.nd rfl (.inl rfl)) pgs_nil)))))
      (pss_one (ps_if (pt_val (pe_cal c_is_over hr (pa_cons (pe_cal c_ends_kept hr (pa_cons (pe_ix ix_list (pv 4) (pv 11) (fun _ _ => rfl)) (pa_cons (pe_ix ix_list (pv 7) (pv 12) (fun _ _ => rfl)) (pa_cons (pe_ix ix_list (pv 5) (pv 12) (fun _ _ => rfl)) pa_nil)))) pa_nil))) (pss_one (ps_expr (pe_bm PySem.F.plainAttrs_list PySem.F.slot_list_append PySem.F.type_list_append mt_append (pv 8) (pa_cons (pv 9) pa_nil)))) pss_nil))))
      (pss_one (ps_ret (pv 8)))))))))), ?_⟩
    obtain ⟨ok, dx, fl, rl, hl, pl, fv, rv, hv0, b⟩ := id hn
    have h6 := ok.h2
    have gd : goodH n os = true := by
      replace hib : (goodH n os && _) = true := hib
      rw [Bool.and_eq_true] at hib
      exact hib.1
    have lbo : (downL os).length = n.holds.length := by
      have gd2 := gd
      unfold goodH at gd2
      rw [Bool.and_eq_true, decide_eq_true_eq] at gd2
      unfold downL
      rw [List.length_map]
      exact gd2.1
    have los : os.length ≤ 1000 := by
      unfold downL at lbo
      rw [List.length_map] at lbo
      omega
    refine ⟨_, rfl, _, rfl, _, rfl, _, rfl, p, n, lo, hi, v0, some os, k, rfl, hn, l26, i1, i2, le, z1, z2, hbx, (fun os2 e => by cases e; exact ⟨los, bdo⟩), k70, kb, fun H1 s1 => ⟨_, rfl, ?_⟩⟩
    rw [hib]
    refine iteF ?_
    obtain ⟨ha, hv, rfl, hha, ot⟩ := hbx
    rw [good_some gd] at ot
    have th := ot.ts
    have bdh := bdo
    unfold BdO at bdh
    generalize downL os = held at *
    refine ⟨_, rfl, p, dx, _, rfl, s1 _ _ b.ob, nl_no (by decide +kernel), p, n, rfl, hn.same s1, fun fl2 fv2 H2 hf2 s2 h_fl2 hff => ?_⟩
    have S2 := s1.trans s2
    refine ⟨_, rfl, p, dx, _, rfl, S2 _ _ b.ob, nl_no (by decide +kernel), p, n, rfl, hn.same S2, fun pl2 H3 hp3 s3 h_pl2 => ?_⟩
    have S3 := S2.trans s3
    refine ⟨_, rfl, p, dx, _, rfl, S3 _ _ b.ob, nl_no (by decide +kernel), p, n, rfl, hn.same S3, fun rl2 rv2 H3b hr4 s3b h_rl2 hrr => ?_⟩
    have S3b := S3.trans s3b
    refine ⟨_, rfl, _, rfl, _, rfl, (by show 2 ≤ sizeLine; decide), fun xa hxa => ?_⟩
    generalize hGx : upd _ xa _ = G4
    obtain ⟨s4, h_xa⟩ := upd_gen hGx hxa
    have S4 := S3b.trans s4
    refine ⟨_, rfl, p, xa, ha, n, (lo, hi), held, hv, k, rfl, hn.same S4, l26, h_xa, S4 _ _ hha, th.same S4, lbo, k70, kb, ⟨up z1 (by omega), up z2 (by omega)⟩, bdh, fun sl sv G5 sl0 s5 h_sl tsl => ?_⟩
    have S5 := S4.trans s5
    refine ⟨(by show 0 ≤ sizeLine; decide), fun tl htl => ?_⟩
    generalize hGt : upd _ tl _ = G6
    obtain ⟨s6, h_tl⟩ := upd_gen hGt htl
    have S6 := S5.trans s6
    have ht0 : H tl = none := S5.free htl
    refine ⟨_, rfl, p, dx, _, rfl, S6 _ _ b.ob, nl_no (by decide +kernel), p, n, rfl, hn.same S6, fun kl2 G7 hk7 s7 h_kl2 => ?_⟩
    have S7 := S6.trans s7
    have bd9 := (spans_all ok l26 (x := (lo, hi)) (held := held) (k := k) ⟨up z1 (by omega), up z2 (by omega)⟩ bdh k70).mono (j := 900000) (by omega)
    have s47 := s5.trans (s6.trans s7)
    have h_sl7 := s7 _ _ (s6 _ _ h_sl)
    have tsl7 := tsl.same (s6.trans s7)
    have h_fl7 := s47 _ _ (s4 _ _ (s3b _ _ (s3 _ _ h_fl2)))
    have hff7 := hff.same (s3.trans (s3b.trans (s4.trans s47)))
    have h_pl7 := s47 _ _ (s4 _ _ (s3b _ _ h_pl2))
    have h_rl7 := s47 _ _ (s4 _ _ h_rl2)
    have hrr7 := hrr.same (s4.trans s47)
    have h_tl7 := s7 _ _ h_tl
    have nkt : kl2 ≠ tl := (ne_of_none h_tl hk7).symm
    have nst : sl ≠ tl := ne_of_none h_sl htl
    have nft : fl2 ≠ tl := ne_of_none (s5 _ _ (s4 _ _ (s3b _ _ (s3 _ _ h_fl2)))) htl
    have npt : pl2 ≠ tl := ne_of_none (s5 _ _ (s4 _ _ (s3b _ _ h_pl2))) htl
    have nrt : rl2 ≠ tl := ne_of_none (s5 _ _ (s4 _ _ h_rl2)) htl
    have kle : (keepsOf n.rows).length ≤ n.rows.length := by
      refine Nat.le_trans (List.length_filter_le _ _) ?_
      rw [List.length_range]
      exact Nat.le_refl _
    have lrr := hrr.len
    rw [List.length_map] at lrr
    have lpt := pts_len n
    refine ⟨kl2, rfl, ⟨_, SqL.of h_kl2⟩, ?_⟩
    refine for_it (walk_list (K := K) (a := kl2) (xs := (keepsOf n.rows).map nI)) (fun i σ G => ∃ (y9 y10 y11 y12 : Option V), σ = [some (.ref p), some (.int lo), some (.int hi), some (.ref ha), some (.ref fl2), some (.ref pl2), some (.ref rl2), some (.ref sl), some (.ref tl), y9, y10, y11, y12] ∧ SameBut tl G7 G ∧ G tl = some (.lst ((((keepsOf n.rows).take i).filter (overAt n (lo, hi) held)).map nI))) ⟨none, none, none, none, rfl, SameBut.refl _ _, h_tl7⟩ (fun i σ G _ hP => ?_) (fun i v σ G G' hj hP hY => ?_) (fun σ G hP => ?_)
    · obtain ⟨y9, y10, y11, y12, rfl, B, _⟩ := hP
      exact SqL.of (B _ _ nkt h_kl2)
    · obtain ⟨y9, y10, y11, y12, rfl, B, hd⟩ := hP
      obtain ⟨rfl, e1⟩ := hY
      rw [List.getElem?_map] at e1
      obtain ⟨m, em, rfl⟩ := Option.map_eq_some_iff.mp e1
      obtain ⟨f, a, er⟩ := keeps_at (List.mem_of_getElem? em)
      have ml := (List.getElem?_eq_some_iff.mp er).1
      obtain ⟨h1, h2⟩ := ok.ro m _ er
      obtain ⟨rp, erp, hrp⟩ := hrr7.at (i := m) (xs := (Row.keep f a).vs) (by rw [List.getElem?_map, er]; rfl)
      replace hrp := B _ _ (ne_of hrp h_tl7 (fun z => nomatch z)) hrp
      have B1 := B
      obtain ⟨fp, efp, hfp⟩ := (hff7.butL B h_tl7).frm h1
      have al : a < (n.spans (lo, hi) held).length := by
        rw [spans_len]
        omega
      obtain ⟨qa, ea, hqa⟩ := spans_at tsl7 al
      replace hqa := B _ _ (ne_of hqa h_tl7 (fun z => nomatch z)) hqa
      obtain ⟨p0, p1⟩ := ok.po (n.pts.getD a 0) (by
        rw [List.getD_eq_getElem?_getD, List.getElem?_eq_getElem (by omega)]
        exact List.getElem_mem _)
      refine ⟨_, rfl, _, rfl, rl2, _, _, .ref rp, rfl, rfl, SqL.of (B _ _ nrt h_rl7), atI_nat erp, rp, _, rfl, SqT.of hrp, rfl, _, _, rfl, _, _, rfl, _, _, rfl, rfl, ?_⟩
      refine ⟨_, rfl, _, rfl, fl2, _, _, .ref fp, rfl, rfl, SqL.of (B _ _ nft h_fl7), atI_nat efp, _, rfl, _, rfl, sl, _, _, .ref qa, rfl, rfl, SqL.of (B _ _ nst h_sl7), atI_nat ea, _, rfl, _, rfl, pl2, _, _, _, rfl, rfl, SqL.of (B _ _ npt h_pl7), ints_at (by omega), ?_⟩
      refine ⟨fp, qa, frm n.fs f, _, _, rfl, hfp, hqa, p0, p1, (bd9.get a).1, (bd9.get a).2, fun l t1 t2 G8 s8 h_l h_1 h_2 => ?_⟩
      refine ⟨l, t1, t2, _, _, _, _, rfl, h_l, h_1, h_2, _, rfl, ?_⟩
      have eo : overAt n (lo, hi) held m = (!decide (endO (frm n.fs f) ((n.spans (lo, hi) held).getD a (0, 0)).1 (n.pts.getD a 0) = 0) || !decide (endO (frm n.fs f) ((n.spans (lo, hi) held).getD a (0, 0)).2 (n.pts.getD a 0) = 0)) := by
        unfold overAt
        rw [er]
        rfl
      rw [← eo]
      have tk : ((keepsOf n.rows).take (i + 1)).filter (overAt n (lo, hi) held) = ((keepsOf n.rows).take i).filter (overAt n (lo, hi) held) ++ (if overAt n (lo, hi) held m = true then [m] else []) := by
        rw [List.take_add_one, em, Option.toList_some, List.filter_append, filt_one]
      have small : ((((keepsOf n.rows).take i).filter (overAt n (lo, hi) held)).map nI).length < sizeLine := sl_lt (by
        rw [List.length_map]
        have := List.length_filter_le (overAt n (lo, hi) held) ((keepsOf n.rows).take i)
        rw [List.length_take] at this
        omega)
      cases ov : overAt n (lo, hi) held m with
      | true =>
        refine iteT ⟨_, rfl, .inl ⟨rfl, _, SqL.of (s8 _ _ hd)⟩, _, rfl, tl, _, _, rfl, rfl, s8 _ _ hd, small, _, _, _, _, rfl, (B.trans (.of s8)).trans SameBut.upd, ?_⟩
        rw [upd_same, tk, ov, List.map_append]
        rfl
      | false =>
        refine iteF ⟨_, _, _, _, rfl, B.trans (.of s8), ?_⟩
        rw [tk, ov, s8 _ _ hd]
        show _ = some (HO.lst ((_ ++ []).map nI))
        rw [List.append_nil]
    · obtain ⟨y9, y10, y11, y12, rfl, B, hd⟩ := hP
      rw [List.length_map, List.take_length] at hd
      exact ⟨_, rfl, q tl G ht0 (same_but S7 B ht0) hd⟩
theorem ok_may_overX {f : Addr} {fd : FuncData} {C CN fR : Addr} (gR : mg "stretch_of_row" = some (.ref fR)) (TN : NTxt K mg CN) {CW CS : Addr} (NSS : OwnX K mg "NoState" CS) (F : Fun K "may_over" "may_over" s_may_over f fd) (z : Zs mg) (n_forms : CalM P w K mg base 1 CN "forms" ["self"] (spFormsM C CN)) (n_points : CalM P w K mg base 1 CN "points" ["self"] (spPtsM C CN)) (n_rows : CalM P w K mg base 1 CN "rows" ["self"] (spRowsM C CN)) (n_keeps : CalM P w K mg base 1 CN "keeps" ["self"] (spKeepsM C CN)) (c_is_box : CalX P w K mg base 10 "is_box" ["net", "low", "high", "holds"] [] (spIsBoxX K C CN CW)) (c_swept : Cal P w K mg base 9 "swept" ["net", "heard", "held", "rule"] (spSweptS C CN fR)) (c_ends_kept : Cal P w K mg base 6 "ends_kept" ["form", "stretch", "point"] (spEndsK C)) (c_is_over : Cal P w K mg base 1 "is_over" ["ends"] spIsOver) : FnOk P w K mg base (L2.CX P w) 11 f fd ["net", "low", "high", "holds"] (spMayX K C CN CS CW) := by
  refine F.okX sc_may_over (fun vs H Q E h => ?_) (fun cdv A outer s H vs Q E hr h => ?_)
  · obtain ⟨p, n, x, y, v, rfl, _⟩ := h
    rfl
  · obtain ⟨p, n, x, y, v, rfl, hn, h⟩ := h
    refine ⟨_, (pss_cons (ps_if (pt_not (pt_val (pe_calxS c_is_box hr (takes_of rfl rfl rfl rfl) (pa_cons (pv 0) (pa_cons (pv 1) (pa_cons (pv 2) (pa_cons (pv 3) pa_nil))))))) (pss_one (ps_raise rfl (takes_of rfl rfl rfl rfl) (pmk_own PySem.F.excBase_ArithmeticError NSS.x NSS.g NSS.k (raises_own NSS.b NSS.t) rfl))) pss_nil)
      (pss_cons (ps_set (i := 4) sc_may_over.nd rfl (.inl rfl) (pe_calm0 (pv 0) TN.cl n_forms hr))
      (pss_cons (ps_set (i := 5) sc_may_over.nd rfl (.inl rfl) (pe_calm0 (pv 0) TN.cl n_points hr))
      (pss_cons (ps_set (i := 6) sc_may_over.nd rfl (.inl rfl) (pe_calm0 (pv 0) TN.cl n_rows hr))
      (pss_cons (ps_set (i := 7) sc_may_over.nd rfl (.inl rfl) (pe_cal c_swept hr (pa_cons (pv 0) (pa_cons (pe_tup (pa_cons (pv 1) (pa_cons (pv 2) pa_nil))) (pa_cons (pv 3) (pa_cons (pe_glob (v := .ref fR) (by rfl) gR rfl) pa_nil))))))
      (pss_cons (ps_set (i := 8) sc_may_over.nd rfl (.inl rfl) (pe_lst pa_nil))
      (pss_cons (ps_for (passes_of rfl) rfl (pi_list (pe_calm0 (pv 0) TN.cl n_keeps hr)) (pg_name (i := 9) sc_may_over.nd rfl (.inl rfl)) (pss_cons (ps_asg (pe_ix ix_list (pv 6) (pv 9) (fun _ _ => rfl)) (pg_tup (by rfl) (pgs_cons (pg_name (i := 10) sc_may_over.nd rfl (.inl rfl)) (pgs_cons (pg_name (i := 11) sc_may_over.nd rfl (.inl rfl)) (pgs_cons (pg_name (i := 12) sc_may_over.nd rfl (.inl rfl)) pgs_nil)))))
      (pss_one (ps_if (pt_val (pe_cal c_is_over hr (pa_cons (pe_cal c_ends_kept hr (pa_cons (pe_ix ix_list (pv 4) (pv 11) (fun _ _ => rfl)) (pa_cons (pe_ix ix_list (pv 7) (pv 12) (fun _ _ => rfl)) (pa_cons (pe_ix ix_list (pv 5) (pv 12) (fun _ _ => rfl)) pa_nil)))) pa_nil))) (pss_one (ps_expr (pe_bm PySem.F.plainAttrs_list PySem.F.slot_list_append PySem.F.type_list_append mt_append (pv 8) (pa_cons (pv 9) pa_nil)))) pss_nil))))
      (pss_one (ps_ret (pv 8)))))))))), ?_⟩
    rcases h with ⟨lo, hi, b1, k, rfl, rfl, l26, i1, i2, le, z1, z2, hbx, hos, k70, kb, hib, q⟩ | ⟨hne, q⟩
    · refine ⟨_, rfl, _, rfl, _, rfl, _, rfl, .inl ⟨p, n, lo, hi, v, b1, k, rfl, hn, l26, i1, i2, le, z1, z2, hbx, hos, k70, kb, fun H1 s1 => ⟨_, rfl, ?_⟩⟩⟩
      rw [hib]
      exact iteT (q _ s1)
    · exact ⟨_, rfl, _, rfl, _, rfl, _, rfl, .inr ⟨p, n, x, y, v, rfl, hn, hne, q⟩⟩
theorem ok_boxX {f : Addr} {fd : FuncData} {C CN CM fR : Addr} {tkR : Tok} {CW : Addr} (NW : OwnX K mg "NoWords" CW) (g_MOST_ROUNDS : mg "MOST_ROUNDS" = some (.int 40 tkR)) (gR : mg "stretch_of_row" = some (.ref fR)) (TN : NTxt K mg CN) {dvs : List V} (F : FunD K "box" "box" (defArgs s_box) (defBody s_box) (defScope s_box) dvs [] f fd) (z : Zs mg) (n_start : CalM P w K mg base 1 CN "start" ["self"] (spStartM C CN)) (c_check_ends : CalX P w K mg base 3 "check_ends" ["net", "low", "high"] [] (spCkEndsX K C CN CW)) (c_is_whole : Cal P w K mg base 1 "is_whole" ["thing"] (spWhole K)) (c_swept : Cal P w K mg base 9 "swept" ["net", "heard", "held", "rule"] (spSweptS C CN fR)) (c_widened : CalX P w K mg base 3 "widened" ["net", "held", "stretches", "rounds", "many"] [] (spWidened C CN CM)) : FnOk P w K mg base (L2.CX P w) 10 f fd ["net", "low", "high", "many"] (spBoxX6 K C CN CW) := by
  refine F.ok sc_box (fun vs H Q E h => ?_) (fun cdv A outer s H vs Q E hr h => ?_)
  · obtain ⟨p, n, x, y, m, rfl, _⟩ := h
    rfl
  · obtain ⟨p, n, x, y, m, rfl, hn, h⟩ := h
    refine ⟨_, (pss_cons (ps_expr (pe_calxS c_check_ends hr (takes_of rfl rfl rfl rfl) (pa_cons (pv 0) (pa_cons (pv 1) (pa_cons (pv 2) pa_nil)))))
      (pss_cons (ps_if (PW.pt (pw_or (pt_not (pt_val (pe_cal c_is_whole hr (pa_cons (pv 3) pa_nil)))) (pw_or1 (pt_not (pt_chain op_le op_le pe_int (pv 3) (pe_glob (v := .int 40) (by rfl) g_MOST_ROUNDS ⟨_, rfl⟩)))))) (pss_one (ps_raise rfl (takes_of rfl rfl rfl rfl) (pmk_own PySem.F.excBase_ArithmeticError NW.x NW.g NW.k (raises_own NW.b NW.t) rfl))) pss_nil)
      (pss_cons (ps_setLc (i := 4) (own := [("word", 8)]) (g := gName 8) (tt := tYes) (te := (tTup (tCons (tVar 8) (tCons (tVar 8) tNil)))) (by rfl) sc_box.nd rfl rfl (sw_true rfl rfl rfl (by decide +kernel)) (pi_tup (pe_calm0 (pv 0) TN.cl n_start hr)) (blkOk_by (own := [("word", 8)]) (N := ["net", "low", "high", "many", "held", "rounds", "stretches", "wider", "word"]) (sc := defScope s_box) (by decide +kernel)) (fun _ _ _ _ _ => by exact (pg_name (i := 8) sc_box.nd rfl (.inl rfl))) (fun _ _ _ _ _ => by exact pts_nil) (fun _ _ _ _ _ => by exact (pe_tup (pa_cons (pv 8) (pa_cons (pv 8) pa_nil)))))
      (pss_cons (ps_set (i := 5) sc_box.nd rfl (.inl rfl) pe_int)
      (pss_one (ps_while (passes_of rfl) (pt_val pe_bl) (pss_cons (ps_set (i := 6) sc_box.nd rfl (.inl rfl) (pe_cal c_swept hr (pa_cons (pv 0) (pa_cons (pe_tup (pa_cons (pv 1) (pa_cons (pv 2) pa_nil))) (pa_cons (pv 4) (pa_cons (pe_glob (v := .ref fR) (by rfl) gR rfl) pa_nil))))))
      (pss_cons (ps_set (i := 7) sc_box.nd rfl (.inl rfl) (pe_calxS c_widened hr (takes_of rfl rfl rfl rfl) (pa_cons (pv 0) (pa_cons (pv 4) (pa_cons (pv 6) (pa_cons (pv 5) (pa_cons (pv 3) pa_nil)))))))
      (pss_cons (ps_if (pt_cmpR (op_eqD hr.units) (pv 7) (pv 4) (nomark _)) (pss_one (ps_ret (pe_tup (pa_cons pe_str (pa_cons (pv 4) (pa_cons (pv 6) (pa_cons (pv 5) pa_nil))))))) pss_nil)
      (pss_cons (ps_set (i := 4) sc_box.nd rfl (.inl rfl) (pv 7))
      (pss_one (ps_aug (i := 5) sc_box.nd rfl (.inl rfl) pe_int ip_add)))))))))))), ?_⟩
    rcases h with ⟨hne, q⟩ | ⟨lo, hi, rfl, rfl, i1, i2, le, hm, q⟩
    · exact ⟨_, rfl, _, rfl, _, rfl, p, n, x, y, rfl, hn, .inr ⟨hne, q⟩⟩
    refine ⟨_, rfl, _, rfl, _, rfl, p, n, _, _, rfl, hn, .inl ⟨lo, hi, rfl, rfl, i1, i2, le, fun H1 s1 => ?_⟩⟩
    rcases hm with ⟨i, rfl, hi1 | hi1⟩ | hm
    · refine ⟨_, rfl, _, true, rfl, .int _, _, rfl, iteF ?_⟩
      exact ⟨_, rfl, _, _, rfl, rfl, _, rfl, iteC (d := false) (decide_eq_false (by omega)) (iteF ⟨_, rfl, iteT (q _ s1)⟩)⟩
    · refine ⟨_, rfl, _, true, rfl, .int _, _, rfl, iteF ?_⟩
      refine ⟨_, rfl, _, _, rfl, rfl, _, rfl, ite2 (fun _ => ⟨_, _, rfl, rfl, _, rfl, iteC (d := true) (by rw [decide_eq_false (show ¬ i ≤ 40 by omega)]; rfl) (iteT (q _ s1))⟩) (fun _ => ⟨_, rfl, iteT (q _ s1)⟩)⟩
    · exact ⟨_, rfl, m, false, rfl, hm _ s1, _, rfl, iteT (q _ s1)⟩
end
end E1

namespace E1
open PySem PySem.Spec PyProof.Rows L2

/-- calls within a try, one with its defaults, one by names -/
theorem pe_calxSD {X : Cx} {k j : Nat} {x : Str} {ps : List Str} {dvs : List V} {sp : Sp} {e : Expr} {es : List Expr} {t : TA} {p pos : Pos} {W : WX} (c : CalX X.prog X.w X.K X.mg X.base k x ps dvs sp) (hr : Room j X.A) (tk : Takes X W) (ha : PA X (e :: es) t) (hle : k ≤ j := by decide) (hg : Gl X x := by rfl)
    (hdb : (x == ("__debug__" : Str)) = false := by decide) (he : starEach (e :: es) X.env = (false, eval e X.env) :: starEach es X.env := by rfl) (hpl : (backTo pos (starEach es X.env)).any (·.1) = false := by rfl) :
    PE X (.Call (.Name x p) (e :: es) [] pos) (tCallSD sp dvs (WE W) t) := by
  rcases c with ⟨f, fd, ds, at_, kept, dv, bd, ok⟩
  exact pe_callSD ok (hr.mono hle) hg at_ kept bd dv (fun σ => passAt tk σ) ha hdb he hpl
theorem cut_to {zs : List V} {m : Nat} : cutV zs none (some (m : Int)) = zs.take m := by
  unfold cutV
  rw [HT.sIx_none, HT.sIx_nat, List.drop_zero, Nat.sub_zero]
  by_cases h : m ≤ zs.length
  · rw [Nat.min_eq_left h]
  · rw [Nat.min_eq_right (by omega), List.take_of_length_le (Nat.le_refl _), List.take_of_length_le (by omega)]
theorem cut_from {zs : List V} {m : Nat} (h : m ≤ zs.length) : cutV zs (some (m : Int)) none = zs.drop m := by
  unfold cutV
  rw [HT.sIx_none, HT.sIx_nat, Nat.min_eq_left h]
  exact List.take_of_length_le (by rw [List.length_drop]; omega)
theorem TsAt.take {H : Hp} {vs : List V} {xss : List (List V)} (h : TsAt H vs xss) : ∀ k, TsAt H (vs.take k) (xss.take k) := by
  induction h with
  | nil => intro k; cases k <;> exact .nil
  | cons e _ ih =>
    intro k
    cases k with
    | zero => exact .nil
    | succ k => exact .cons e (ih k)
theorem TsAt.drop {H : Hp} {vs : List V} {xss : List (List V)} (h : TsAt H vs xss) : ∀ k, TsAt H (vs.drop k) (xss.drop k) := by
  induction h with
  | nil => intro k; cases k <;> exact .nil
  | cons e r ih =>
    intro k
    cases k with
    | zero => exact .cons e r
    | succ k => exact ih k

theorem lst_le_grt (y : Int) (h : 2 ≤ y) : lst y ≤ 0 ∧ 1 ≤ grt y := by
  have h2 : (2 : Int) ≤ two (y - 1) := by
    obtain ⟨k, e⟩ : ∃ k : Nat, (y - 1).toNat = k + 1 := ⟨(y - 1).toNat - 1, by omega⟩
    unfold two
    rw [e, Int.pow_succ]
    have : (0 : Int) < 2 ^ k := Int.pow_pos (by decide)
    omega
  have e1 : lst y = -(two (y - 1)) := rfl
  have e2 : grt y = two (y - 1) - 1 := rfl
  omega
theorem inR_iff (y k : Int) : inR (some y) k = (decide (lst y ≤ k) && decide (k ≤ grt y)) := rfl
/-- both ends words, one word between: as the law looks at it -/
theorem isHS_law {y k : Int} {s : Sp2} (hk : inR (some y) k = true) : isHS (some y) k (some s) = (hasIn s (k, k) && (!(decide (s.1 < lst y) || decide (grt y < s.2)))) := by
  have hk2 := in_both hk
  show (inR (some y) s.1 && (inR (some y) s.2 && hasIn s (k, k))) = _
  rw [inR_iff, inR_iff, Bool.eq_iff_iff]
  simp only [hasIn, Bool.and_eq_true, decide_eq_true_eq, Bool.not_eq_true', Bool.or_eq_false_iff, decide_eq_false_iff_not]
  omega
theorem isHS_free {k : Int} {s : Sp2} : isHS none k (some s) = hasIn s (k, k) := rfl
theorem isBx_bad {n : NetP} {x : Sp2} {os : List (Option Sp2)} {i : Nat} {h : Hold} {o : Option Sp2} (e : n.holds[i]? = some h) (e2 : os[i]? = some o) (b : isHS (frm n.fs h.k).w h.s o = false) : isBx n x (some os) = false := by
  show (goodH n os && _) = false
  have : goodH n os = false := by
    unfold goodH
    have h2 := hsL_at e e2
    rw [b] at h2
    rw [all_false h2, Bool.and_false]
  rw [this, Bool.false_and]
theorem isBx_len {n : NetP} {x : Sp2} {os : List (Option Sp2)} (h : os.length ≠ n.holds.length) : isBx n x (some os) = false := by
  show (goodH n os && _) = false
  unfold goodH
  rw [decide_eq_false h, Bool.false_and, Bool.false_and]
theorem isBx_good {n : NetP} {x : Sp2} {os : List (Option Sp2)} (hl : os.length = n.holds.length) (h : ∀ (i : Nat) (h : Hold) (o : Option Sp2), n.holds[i]? = some h → os[i]? = some o → isHS (frm n.fs h.k).w h.s o = true) : goodH n os = true ∧ isBx n x (some os) = (clL n x (downL os)).all id := by
  have g : goodH n os = true := by
    unfold goodH
    rw [decide_eq_true hl, Bool.true_and]
    refine all_true fun i hi => ?_
    rw [hsL_len] at hi
    have eh := List.getElem?_eq_getElem (l := n.holds) (i := i) (by omega)
    have eo := List.getElem?_eq_getElem (l := os) (i := i) (by omega)
    rw [hsL_at eh eo, h i _ _ eh eo]
  refine ⟨g, ?_⟩
  show (goodH n os && _) = _
  rw [g, Bool.true_and]
def spLIsBox : Sp := fun vs H Q _ => ∃ (hp pa xa : Addr) (n : NetP) (x : Sp2) (v : V) (b : Option (List (Option Sp2))) (k : Nat), vs = [.ref hp, .ref pa, .ref xa, v] ∧ PartsAt H hp n ∧ NetOk n ∧ n.rows.length ≤ 26 ∧ H pa = some (.lst (n.pts.map V.int)) ∧ H xa = some (.tup (spV x)) ∧ BxAt H v b ∧ (∀ os, b = some os → os.length ≤ 1000 ∧ BdO k os) ∧ 70 ≤ k ∧ k + 15600 ≤ 900000 ∧ (x.1.natAbs < 2 ^ k ∧ x.2.natAbs < 2 ^ k) ∧ ∀ H', Same H H' → Q (.bl (isBx n x b)) H'
def spLMay : Sp := fun vs H Q _ => ∃ (hp pa xa : Addr) (n : NetP) (x : Sp2) (v : V) (os : List (Option Sp2)) (k : Nat), vs = [.ref hp, .ref pa, .ref xa, v] ∧ PartsAt H hp n ∧ NetOk n ∧ n.rows.length ≤ 26 ∧ H pa = some (.lst (n.pts.map V.int)) ∧ H xa = some (.tup (spV x)) ∧ BxAt H v (some os) ∧ isBx n x (some os) = true ∧ BdO k os ∧ 70 ≤ k ∧ k + 15600 ≤ 900000 ∧ (x.1.natAbs < 2 ^ k ∧ x.2.natAbs < 2 ^ k) ∧ ∀ l H', H l = none → Same H H' → H' l = some (.lst ((mayF n x (downL os)).map nI)) → Q (.ref l) H'
def spLAll : Sp := fun vs H Q _ => ∃ (hp : Addr) (n : NetP), vs = [.ref hp] ∧ PartsAt H hp n ∧ NetOk n ∧ ∀ l lv held H', H l = none → Same H H' → H' l = some (.lst lv) → TsAt H' lv (held.map spV) → held.length = n.holds.length → BdS 110 held → Q (.ref l) H'
def spLStart (C CN : Addr) : Sp := fun vs H Q _ => ∃ (p hp : Addr) (n : NetP) (lo hi : Int), vs = [.ref p, .ref hp, .int lo, .int hi] ∧ NetAt C CN H p n ∧ PartsAt H hp n ∧ n.rows.length ≤ 26 ∧ inR (frm n.fs n.en).w lo = true ∧ inR (frm n.fs n.en).w hi = true ∧ lo ≤ hi ∧ lo.natAbs < 2 ^ 70 ∧ hi.natAbs < 2 ^ 70 ∧ (∀ k ∈ starts n, k.natAbs < 2 ^ 70) ∧ ∀ l lv held H', H l = none → Same H H' → H' l = some (.lst lv) → TsAt H' lv (held.map spV) → held.length = n.holds.length → BdS 440000 held → Q (.ref l) H'
theorem may_is (n : NetP) (x : Sp2) (held : List Sp2) : mayF n x held = (List.range n.rows.length).filter (overAt n x held) := by
  unfold mayF keepsOf
  rw [List.filter_filter]
  refine List.filter_congr fun i _ => ?_
  cases h : overAt n x held i with
  | false => rfl
  | true =>
    unfold overAt at h
    split at h
    · rename_i f a e
      unfold kpAt
      rw [e]
      rfl
    · cases h
theorem small_two {y : Int} (h0 : 2 ≤ y) (h1 : y ≤ 64) : 0 < two (y - 1) ∧ (two (y - 1)).natAbs < 2 ^ 64 := by
  refine ⟨two_pos _, ?_⟩
  unfold two
  exact two_pow_lt (by omega)
section
variable {P : Program} {w : World} {K : PySem.W.Frag} {mg : Str → Option Value} {base : Heap}
theorem sc__law_whole : FnScope ["_law_thing"] ["_law_thing"] (defScope s__law_whole) := ⟨rfl, rfl, rfl, by decide +kernel, rfl, by decide +kernel, by decide +kernel⟩
theorem ok__law_whole {f : Addr} {fd : FuncData} {k : Nat} (F : Fun K "_law_whole" "_law_whole" s__law_whole f fd) (z : Zs mg) : FnOk P w K mg base CX0 (k + 1) f fd ["_law_thing"] (spWhole K) := by
  refine F.ok sc__law_whole (fun vs H Q E h => ?_) (fun cdv A outer s H vs Q E hr h => ?_)
  · obtain ⟨x, b, rfl, _⟩ := h
    rfl
  · obtain ⟨x, b, rfl, hw, q⟩ := h
    refine ⟨_, (pss_one (ps_ret (pe_and (pe_callB call_isi (by rfl) z.isinstance (by decide +kernel) (pa_cons (pv 0) (pa_cons (pe_bltn (v := .ty "int") (by rfl) z.int (by decide +kernel) rfl) pa_nil))) (pe_one (pe_not (pe_callB call_isi (by rfl) z.isinstance (by decide +kernel) (pa_cons (pv 0) (pa_cons (pe_bltn (v := .ty "bool") (by rfl) z.bool (by decide +kernel) rfl) pa_nil)))))))), ?_⟩
    rcases hw with ⟨i, rfl, rfl⟩ | ⟨c, rfl, rfl⟩ | ⟨rfl, t, ty, kt⟩
    · exact ⟨_, rfl, _, .ty "int", _, _, true, rfl, .ty _, .base (.int i), kit_ty (by decide +kernel), _, rfl, iteT ⟨_, rfl, _, .ty "bool", _, _, false, rfl, .ty _, .base (.int i), kit_ty (by decide +kernel), _, rfl, q⟩⟩
    · exact ⟨_, rfl, _, .ty "int", _, _, true, rfl, .ty _, .base (.bl c), kit_ty (by decide +kernel), _, rfl, iteT ⟨_, rfl, _, .ty "bool", _, _, true, rfl, .ty _, .base (.bl c), kit_ty (by decide +kernel), _, rfl, q⟩⟩
    · exact ⟨_, rfl, _, .ty "int", _, _, false, rfl, .ty _, ty, kit_ty kt, _, rfl, iteF q⟩
theorem sc__law_is_box : FnScope ["_law_parts", "_law_points_here", "_law_entered", "_law_hold_list", "_law_one", "_law_number", "_law_word_here", "_law_row_here", "_law_room", "_law_rows", "_law_hold"] ["_law_parts", "_law_points_here", "_law_entered", "_law_hold_list"] (defScope s__law_is_box) := ⟨rfl, rfl, rfl, by decide +kernel, rfl, by decide +kernel, by decide +kernel⟩
theorem ok__law_is_box {f : Addr} {fd : FuncData} (F : Fun K "_law_is_box" "_law_is_box" s__law_is_box f fd) (z : Zs mg) (c__law_whole : Cal P w K mg base 1 "_law_whole" ["_law_thing"] (spWhole K)) (c__law_stretches : Cal P w K mg base 4 "_law_stretches" ["_law_parts", "_law_points_here", "_law_entered", "_law_hold_list"] spLStr) : FnOk P w K mg base CX0 5 f fd ["_law_parts", "_law_points_here", "_law_entered", "_law_hold_list"] spLIsBox := by
  refine F.ok sc__law_is_box (fun vs H Q E h => ?_) (fun cdv A outer s H vs Q E hr h => ?_)
  · obtain ⟨hp, pa, xa, n, x, v, b1, k, rfl, _⟩ := h
    rfl
  · obtain ⟨hp, pa, xa, n, x, v, b1, k, rfl, hpp, nok, l26, hpa, hxa, hbx, hos, k70, kb, zx, q⟩ := h
    refine ⟨_, (pss_cons (ps_if (PW.pt (pw_or (pt_not (pt_val (pe_callB call_isi (by rfl) z.isinstance (by decide +kernel) (pa_cons (pv 3) (pa_cons (pe_bltn (v := .ty "list") (by rfl) z.list (by decide +kernel) rfl) pa_nil))))) (pw_or1 (pt_cmpR op_ne (pe_callB call_len_seq (by rfl) z.len PySem.boot_len (pa_cons (pv 3) pa_nil)) (pe_callB call_len_seq (by rfl) z.len PySem.boot_len (pa_cons (pe_ix ix_tup (pv 0) pe_int (fun _ _ => rfl)) pa_nil)) (nomark _))))) (pss_one (ps_ret pe_bl)) pss_nil)
      (C8.pss_cut (ps_for PassesOwn.never rfl (RZ.pi_zipA (by rfl) z.zip (pa_cons (pv 3) (pa_cons (pe_ix ix_tup (pv 0) pe_int (fun _ _ => rfl)) pa_nil))) (pg_tup (by rfl) (pgs_cons (pg_name (i := 4) sc__law_is_box.nd rfl (.inl rfl)) (pgs_cons (pg_tup (by rfl) (pgs_cons (pg_name (i := 5) sc__law_is_box.nd rfl (.inl rfl)) (pgs_cons (pg_name (i := 6) sc__law_is_box.nd rfl (.inl rfl)) (pgs_cons (pg_name (i := 7) sc__law_is_box.nd rfl (.inl rfl)) pgs_nil)))) pgs_nil))) (pss_cons (ps_if (PW.pt (pw_or (pt_not (pt_val (pe_callB call_isi (by rfl) z.isinstance (by decide +kernel) (pa_cons (pv 4) (pa_cons (pe_bltn (v := .ty "tuple") (by rfl) z.tuple (by decide +kernel) rfl) pa_nil))))) (pw_or (pt_cmpR op_ne (pe_callB call_len_seq (by rfl) z.len PySem.boot_len (pa_cons (pv 4) pa_nil)) pe_int (nomark _)) (pw_or (pt_not (pt_val (pe_cal c__law_whole hr (pa_cons (pe_ix ix_tup (pv 4) pe_int (fun _ _ => rfl)) pa_nil)))) (pw_or1 (pt_not (pt_val (pe_cal c__law_whole hr (pa_cons (pe_ix ix_tup (pv 4) pe_int (fun _ _ => rfl)) pa_nil))))))))) (pss_one (ps_ret pe_bl)) pss_nil)
      (pss_cons (ps_if (pt_not (pt_chain op_le op_le (pe_ix ix_tup (pv 4) pe_int (fun _ _ => rfl)) (pv 6) (pe_ix ix_tup (pv 4) pe_int (fun _ _ => rfl)))) (pss_one (ps_ret pe_bl)) pss_nil)
      (pss_one (ps_if (pt_cmpR op_notN (pe_ix ix_tup (pe_ix ix_list (pe_ix ix_tup (pv 0) pe_int (fun _ _ => rfl)) (pv 5) (fun _ _ => rfl)) pe_int (fun _ _ => rfl)) pe_non (nomark _)) (pss_cons (ps_set (i := 8) sc__law_is_box.nd rfl (.inl rfl) (pe_op op_shlW pe_int (pe_op op_sub (pe_ix ix_tup (pe_ix ix_list (pe_ix ix_tup (pv 0) pe_int (fun _ _ => rfl)) (pv 5) (fun _ _ => rfl)) pe_int (fun _ _ => rfl)) pe_int)))
      (pss_one (ps_if (PW.pt (pw_or (pt_cmpR op_lt (pe_ix ix_tup (pv 4) pe_int (fun _ _ => rfl)) (pe_op op_sub pe_int (pv 8)) (nomark _)) (pw_or1 (pt_cmpR op_ge (pe_ix ix_tup (pv 4) pe_int (fun _ _ => rfl)) (pv 8) (nomark _))))) (pss_one (ps_ret pe_bl)) pss_nil))) pss_nil)))))
      (pss_cons (ps_set (i := 9) sc__law_is_box.nd rfl (.inr rfl) (pe_cal c__law_stretches hr (pa_cons (pv 0) (pa_cons (pv 1) (pa_cons (pv 2) (pa_cons (pv 3) pa_nil))))))
      (pss_one (ps_ret (pe_callB (cr_all rfl) (by rfl) z.all (by decide +kernel) (pa_cons (pe_lc (own := [("_law_one", 4), ("_law_hold", 10)]) (g := gTup K 2 (gCons (gName 4) (gCons (gName 10) gNil))) (tt := tYes) (te := (tAndV (tOp (rI0 fun i j => V.bl (decide (i ≤ j))) (tOp (rIxT K) (tVar 4) (tC (.int 0))) (tOp (rIxT K) (tOp (rIxL K) (tVar 9) (tOp (rIxT K) (tVar 10) (tC (.int 2)))) (tC (.int 0)))) (tOp (rI0 fun i j => V.bl (decide (i ≤ j))) (tOp (rIxT K) (tOp (rIxL K) (tVar 9) (tOp (rIxT K) (tVar 10) (tC (.int 2)))) (tC (.int 1))) (tOp (rIxT K) (tVar 4) (tC (.int 1)))))) (by rfl) sc__law_is_box.nd (RZ.pi_zipA (by rfl) z.zip (pa_cons (pv 3) (pa_cons (pe_ix ix_tup (pv 0) pe_int (fun _ _ => rfl)) pa_nil))) (blkOk_by (own := [("_law_one", 4), ("_law_hold", 10)]) (N := ["_law_parts", "_law_points_here", "_law_entered", "_law_hold_list", "_law_one", "_law_number", "_law_word_here", "_law_row_here", "_law_room", "_law_rows", "_law_hold"]) (sc := defScope s__law_is_box) (by decide +kernel)) (fun _ _ _ _ _ => by exact (pg_tup (by rfl) (pgs_cons (pg_name (i := 4) sc__law_is_box.nd rfl (.inl rfl)) (pgs_cons (pg_name (i := 10) sc__law_is_box.nd rfl (.inl rfl)) pgs_nil)))) (fun _ _ _ _ _ => by exact pts_nil) (fun _ _ _ _ _ => by exact (pe_and (pe_cmpR op_le (pe_ix ix_tup (pv 4) pe_int (fun _ _ => rfl)) (pe_ix ix_tup (pe_ix ix_list (pv 9) (pe_ix ix_tup (pv 10) pe_int (fun _ _ => rfl)) (fun _ _ => rfl)) pe_int (fun _ _ => rfl)) (nomark _)) (pe_one (pe_cmpR op_le (pe_ix ix_tup (pe_ix ix_list (pv 9) (pe_ix ix_tup (pv 10) pe_int (fun _ _ => rfl)) (fun _ _ => rfl)) pe_int (fun _ _ => rfl)) (pe_ix ix_tup (pv 4) pe_int (fun _ _ => rfl)) (nomark _)))))) pa_nil))))))), ?_⟩
    obtain ⟨fa, ra, hb, hhp, ⟨fv, hfa, tf⟩, ⟨rv, hra, tr⟩, ⟨hv3, hhb, th3⟩⟩ := id hpp
    have h6 := nok.h2
    have l3 := th3.len
    rw [List.length_map] at l3
    cases b1 with
    | none =>
      rcases hbx with rfl | ⟨zz, rfl⟩ | ⟨t, xs, rfl, ht⟩
      · exact ⟨_, rfl, _, .ty "list", _, _, false, rfl, .ty _, .base .non, kit_ty (by decide +kernel), _, rfl, iteT (q _ (Same.refl _))⟩
      · exact ⟨_, rfl, _, .ty "list", _, _, false, rfl, .ty _, .base (.str zz), kit_ty (by decide +kernel), _, rfl, iteT (q _ (Same.refl _))⟩
      · exact ⟨_, rfl, _, .ty "list", _, _, false, rfl, .ty _, .base (.tup ht), kit_ty (by decide +kernel), _, rfl, iteT (q _ (Same.refl _))⟩
    | some os =>
    obtain ⟨ha, hv, rfl, hha, ot⟩ := hbx
    have lo := ot.len
    obtain ⟨l1k, bdo⟩ := hos os rfl
    refine ⟨_, rfl, _, .ty "list", _, _, true, rfl, .ty _, .base (.lst hha), kit_ty (by decide +kernel), _, rfl, iteF ⟨_, rfl, ha, _, rfl, .inl (SqL.of hha), _, rfl, hp, _, 3, .ref hb, rfl, rfl, SqT.of hhp, atI_nat (j := 3) rfl, hb, _, rfl, .inl (SqL.of hhb), rfl, _, rfl, ?_⟩⟩
    by_cases hlen : os.length = n.holds.length
    rotate_left
    · rw [isBx_len hlen] at q
      exact iteC (d := true) (by rw [decide_eq_false (fun z => hlen (by have := V.int.inj z; omega))]; rfl) (iteT (q _ (Same.refl _)))
    refine iteC (d := false) (by rw [lo, hlen, l3, decide_eq_true rfl]; rfl) (iteF ?_)
    refine ⟨fun σ G => ∃ y4 y5 y6 y7 y8 : Option V, σ = [some (.ref hp), some (.ref pa), some (.ref xa), some (.ref ha), y4, y5, y6, y7, y8, none, none] ∧ Same H G ∧ ∀ (i : Nat) (h : Hold) (o : Option Sp2), n.holds[i]? = some h → os[i]? = some o → isHS (frm n.fs h.k).w h.s o = true, ?_, fun σ G hM => ?_⟩
    · refine ⟨_, rfl, _, rfl, hp, _, 3, .ref hb, rfl, rfl, SqT.of hhp, atI_nat (j := 3) rfl, ha, hb, _, _, rfl, .inl ⟨SqL.of hha, SqL.of hhb, ?_⟩⟩
      refine for_it (walk_zip (K := K) (a := ha) (b := hb) (xs := hv) (ys := hv3) rfl) (fun i σ G => ∃ y4 y5 y6 y7 y8 : Option V, σ = [some (.ref hp), some (.ref pa), some (.ref xa), some (.ref ha), y4, y5, y6, y7, y8, none, none] ∧ Same H G ∧ ∀ (j : Nat) (h : Hold) (o : Option Sp2), j < i → n.holds[j]? = some h → os[j]? = some o → isHS (frm n.fs h.k).w h.s o = true) ⟨none, none, none, none, none, rfl, Same.refl _, fun j h o z => absurd z (Nat.not_lt_zero _)⟩ (fun i σ G _ hP => ?_) (fun i v3 σ G0 G' hi hP hY => ?_) (fun σ G hP => ?_)
      · obtain ⟨y4, y5, y6, y7, y8, rfl, S, _⟩ := hP
        exact ⟨SqL.of (S _ _ hha), SqL.of (S _ _ hhb)⟩
      · obtain ⟨y4, y5, y6, y7, y8, rfl, S, hall⟩ := hP
        obtain ⟨Tp, u, v, rfl, nT, rfl, e1, e2⟩ := hY
        replace e1 : hv[i]? = some u := e1
        replace e2 : hv3[i]? = some v := e2
        obtain ⟨hp3, xs, rfl, ex, hhp3⟩ := th3.get e2
        rw [List.getElem?_map] at ex
        obtain ⟨hh, eh, rfl⟩ := Option.map_eq_some_iff.mp ex
        obtain ⟨oo, eo, hth⟩ := ot.at_ i u e1
        obtain ⟨kl, hin, xb, exb⟩ := nok.ho hh (List.mem_of_getElem? eh)
        have sN := same_new (o := .tup [u, .ref hp3]) nT
        have S3 := S.trans sN
        have hth3 := hth.map (fun p xs e => ⟨xs, S3 _ _ e⟩) (fun p xs e => S3 _ _ e)
        have bad : isHS (frm n.fs hh.k).w hh.s oo = false → ∀ H', Same H H' → Q (.bl false) H' := fun hb2 => by
          rw [isBx_bad eh eo hb2] at q
          exact q
        have nxt : isHS (frm n.fs hh.k).w hh.s oo = true → ∀ (j : Nat) (h : Hold) (o : Option Sp2), j < i + 1 → n.holds[j]? = some h → os[j]? = some o → isHS (frm n.fs h.k).w h.s o = true := fun hb2 j h o hj d1 d2 => by
          by_cases c : j = i
          · subst c
            rw [eh] at d1
            rw [eo] at d2
            cases d1
            cases d2
            exact hb2
          · exact hall j h o (by omega) d1 d2
        refine ⟨Tp, _, rfl, SqT.of upd_same, rfl, _, _, rfl, _, _, rfl, hp3, _, rfl, SqT.of (S3 _ _ hhp3), rfl, _, _, rfl, _, _, rfl, _, _, rfl, rfl, rfl, ?_⟩
        cases oo with
        | none =>
          have b1 : ∀ H', Same H H' → Q (.bl false) H' := bad rfl
          rcases odd_cases (K := K) hth3 with ⟨ty, hty, kt⟩ | ⟨t, xs, rfl, ht, hne⟩ | ⟨t, kk, rfl, ht⟩ | ⟨t, kk, rfl, ht⟩
          · exact ⟨_, rfl, _, .ty "tuple", _, _, false, rfl, .ty _, hty, kit_ty kt, _, rfl, iteT (b1 _ S3)⟩
          · exact ⟨_, rfl, _, .ty "tuple", _, _, true, rfl, .ty _, .base (.tup ht), kit_ty (by decide +kernel), _, rfl, iteF ⟨_, rfl, t, _, rfl, .inr (SqT.of ht), rfl, _, rfl, iteC (d := true) (by rw [decide_eq_false (fun z => hne (by have := V.int.inj z; omega))]; rfl) (iteT (b1 _ S3))⟩⟩
          · refine ⟨_, rfl, _, .ty "tuple", _, _, true, rfl, .ty _, .base (.tup ht), kit_ty (by decide +kernel), _, rfl, iteF ⟨_, rfl, t, _, rfl, .inr (SqT.of ht), rfl, _, rfl, iteC (d := false) rfl (iteF ?_)⟩⟩
            exact ⟨_, rfl, t, _, 0, .non, rfl, rfl, SqT.of ht, a0, .non, false, rfl, .inr (.inr ⟨rfl, _, .base .non, by decide +kernel⟩), _, rfl, iteT (b1 _ S3)⟩
          · refine ⟨_, rfl, _, .ty "tuple", _, _, true, rfl, .ty _, .base (.tup ht), kit_ty (by decide +kernel), _, rfl, iteF ⟨_, rfl, t, _, rfl, .inr (SqT.of ht), rfl, _, rfl, iteC (d := false) rfl (iteF ?_)⟩⟩
            exact ⟨_, rfl, t, _, 0, .int kk, rfl, rfl, SqT.of ht, a0, .int kk, true, rfl, .inl ⟨_, rfl, rfl⟩, _, rfl, iteF ⟨_, rfl, t, _, 1, .bl true, rfl, rfl, SqT.of ht, a1, .bl true, false, rfl, .inr (.inl ⟨true, rfl, rfl⟩), _, rfl, iteT (b1 _ S3)⟩⟩
        | some s =>
          obtain ⟨t, rfl, ht⟩ := hth3
          refine ⟨_, rfl, _, .ty "tuple", _, _, true, rfl, .ty _, .base (.tup ht), kit_ty (by decide +kernel), _, rfl, iteF ⟨_, rfl, t, _, rfl, .inr (SqT.of ht), rfl, _, rfl, iteC (d := false) rfl (iteF ?_)⟩⟩
          refine ⟨_, rfl, t, _, 0, .int s.1, rfl, rfl, SqT.of ht, a0, .int s.1, true, rfl, .inl ⟨_, rfl, rfl⟩, _, rfl, iteF ⟨_, rfl, t, _, 1, .int s.2, rfl, rfl, SqT.of ht, a1, .int s.2, true, rfl, .inl ⟨_, rfl, rfl⟩, _, rfl, iteF ?_⟩⟩
          have ef := List.getElem?_eq_getElem kl
          have efr := frm_at ef
          have hk : inR (frm n.fs hh.k).w hh.s = true := by
            rw [efr]
            exact hin _ ef
          obtain ⟨fp, ep, hfp⟩ := tf.at (i := hh.k) (xs := (frm n.fs hh.k).vs) (by rw [List.getElem?_map, ef, efr]; rfl)
          have fo : (frm n.fs hh.k).Ok := by
            rw [efr]
            exact nok.fo _ (List.getElem_mem kl)
          have hfp3 := S3 _ _ hfp
          have ehs : hasIn s (hh.s, hh.s) = false → isHS (frm n.fs hh.k).w hh.s (some s) = false := fun e => by
            show (inR _ s.1 && (inR _ s.2 && hasIn s (hh.s, hh.s))) = false
            rw [e, Bool.and_false, Bool.and_false]
          by_cases c1 : s.1 ≤ hh.s
          rotate_left
          · have b1 := bad (ehs (by show (decide _ && _) = false; rw [decide_eq_false c1]; rfl))
            exact ⟨_, rfl, t, _, 0, .int s.1, rfl, rfl, SqT.of ht, a0, _, rfl, _, _, rfl, rfl, _, rfl, iteC (d := false) (decide_eq_false c1) (iteF ⟨_, rfl, iteT (b1 _ S3)⟩)⟩
          by_cases c2 : hh.s ≤ s.2
          rotate_left
          · have b1 := bad (ehs (by show (_ && decide _) = false; rw [decide_eq_false c2, Bool.and_false]))
            exact ⟨_, rfl, t, _, 0, .int s.1, rfl, rfl, SqT.of ht, a0, _, rfl, _, _, rfl, rfl, _, rfl, iteC (d := true) (decide_eq_true c1) (iteT ⟨_, rfl, t, _, 1, .int s.2, rfl, rfl, SqT.of ht, a1, _, _, rfl, rfl, _, rfl, iteC (d := true) (by rw [decide_eq_false c2]; rfl) (iteT (b1 _ S3))⟩)⟩
          have hin2 : hasIn s (hh.s, hh.s) = true := by
            show (decide _ && decide _) = true
            rw [decide_eq_true c1, decide_eq_true c2]
            rfl
          refine ⟨_, rfl, t, _, 0, .int s.1, rfl, rfl, SqT.of ht, a0, _, rfl, _, _, rfl, rfl, _, rfl, iteC (d := true) (decide_eq_true c1) (iteT ⟨_, rfl, t, _, 1, .int s.2, rfl, rfl, SqT.of ht, a1, _, _, rfl, rfl, _, rfl, iteC (d := false) (by rw [decide_eq_true c2]; rfl) (iteF ?_)⟩)⟩
          have WD : ∀ wv, (frm n.fs hh.k).vs[0]? = some wv → atI (frm n.fs hh.k).vs 0 = some wv := fun wv e => atI_nat (j := 0) e
          cases ew : (frm n.fs hh.k).w with
          | none =>
            have e0 : (frm n.fs hh.k).vs[0]? = some V.non := by
              unfold FormP.vs
              rw [ew]
              rfl
            refine ⟨_, rfl, hp, _, 0, .ref fa, rfl, rfl, SqT.of (S3 _ _ hhp), a0, _, rfl, fa, _, _, .ref fp, rfl, rfl, SqL.of (S3 _ _ hfa), atI_nat ep, fp, _, 0, .non, rfl, rfl, SqT.of hfp3, WD _ e0, rfl, _, rfl, iteF ?_⟩
            exact ⟨_, _, _, _, _, rfl, S3, nxt (by rw [ew, isHS_free]; exact hin2)⟩
          | some y =>
            have e0 : (frm n.fs hh.k).vs[0]? = some (V.int y) := by
              unfold FormP.vs
              rw [ew]
              rfl
            obtain ⟨y0, y1⟩ := fo.wo y ew
            have ey : y - 1 = (((y - 1).toNat : Nat) : Int) := by omega
            have cs : CShl 1 (y - 1) := by
              rw [ey]
              exact shl_ok (n := 1) (by decide) (by omega)
            have rm : (1 : Int) * 2 ^ (y - 1).toNat = two (y - 1) := Int.one_mul _
            have el : lst y = -(two (y - 1)) := rfl
            have eg : grt y = two (y - 1) - 1 := rfl
            rw [ew] at hk bad nxt
            rw [isHS_law hk, hin2, Bool.true_and] at bad nxt
            refine ⟨_, rfl, hp, _, 0, .ref fa, rfl, rfl, SqT.of (S3 _ _ hhp), a0, _, rfl, fa, _, _, .ref fp, rfl, rfl, SqL.of (S3 _ _ hfa), atI_nat ep, fp, _, 0, .int y, rfl, rfl, SqT.of hfp3, WD _ e0, rfl, _, rfl, iteT ?_⟩
            refine ⟨_, rfl, hp, _, 0, .ref fa, rfl, rfl, SqT.of (S3 _ _ hhp), a0, _, rfl, fa, _, _, .ref fp, rfl, rfl, SqL.of (S3 _ _ hfa), atI_nat ep, fp, _, 0, .int y, rfl, rfl, SqT.of hfp3, WD _ e0, _, _, rfl, rfl, _, _, rfl, rfl, cs, ?_⟩
            dsimp only
            rw [rm]
            by_cases d1 : s.1 < 0 - two (y - 1)
            · refine ⟨_, rfl, t, _, 0, .int s.1, rfl, rfl, SqT.of ht, a0, _, rfl, _, _, rfl, rfl, _, _, rfl, rfl, _, rfl, iteC (d := true) (decide_eq_true d1) (iteT ?_)⟩
              exact bad (by rw [decide_eq_true (show s.1 < lst y by omega)]; rfl) _ S3
            · refine ⟨_, rfl, t, _, 0, .int s.1, rfl, rfl, SqT.of ht, a0, _, rfl, _, _, rfl, rfl, _, _, rfl, rfl, _, rfl, iteC (d := false) (decide_eq_false d1) (iteF ?_)⟩
              by_cases d2 : two (y - 1) ≤ s.2
              · refine ⟨_, rfl, t, _, 1, .int s.2, rfl, rfl, SqT.of ht, a1, _, rfl, _, _, rfl, rfl, _, rfl, iteC (d := true) (decide_eq_true d2) (iteT ?_)⟩
                exact bad (by rw [decide_eq_true (show grt y < s.2 by omega), Bool.or_true]; rfl) _ S3
              · refine ⟨_, rfl, t, _, 1, .int s.2, rfl, rfl, SqT.of ht, a1, _, rfl, _, _, rfl, rfl, _, rfl, iteC (d := false) (decide_eq_false d2) (iteF ?_)⟩
                exact ⟨_, _, _, _, _, rfl, S3, nxt (by rw [decide_eq_false (show ¬ s.1 < lst y by omega), decide_eq_false (show ¬ grt y < s.2 by omega)]; rfl)⟩
      · obtain ⟨y4, y5, y6, y7, y8, rfl, S, hall⟩ := hP
        refine ⟨y4, y5, y6, y7, y8, rfl, S, fun i h o e1 e2 => hall i h o ?_ e1 e2⟩
        have i1 := (List.getElem?_eq_some_iff.mp e1).1
        have i2 := (List.getElem?_eq_some_iff.mp e2).1
        omega
    obtain ⟨y4, y5, y6, y7, y8, rfl, S, hall⟩ := hM
    obtain ⟨gd, ebx⟩ := isBx_good (x := x) hlen hall
    rw [ebx] at q
    rw [good_some gd] at ot
    have th := ot.ts
    unfold BdO at bdo
    have lbo : (downL os).length = n.holds.length := by
      unfold downL
      rw [List.length_map]
      exact hlen
    clear hall gd ebx
    generalize downL os = held at *
    have lth := th.len
    rw [List.length_map] at lth
    have hhb2 := S _ _ hhb
    have hha2 := S _ _ hha
    refine ⟨_, rfl, _, rfl, _, rfl, _, rfl, hp, pa, xa, ha, n, x, held, hv, k, rfl, hpp.same S, nok, l26, S _ _ hpa, S _ _ hxa, hha2, th.same S, lbo, k70, kb, zx, bdo, fun sl sv G5 sl0 s5 h_sl tsl => ?_⟩
    have S5 := S.trans s5
    refine ⟨_, rfl, _, rfl, hp, _, 3, .ref hb, rfl, rfl, SqT.of (S5 _ _ hhp), atI_nat (j := 3) rfl, ha, hb, _, _, rfl, .inl ⟨SqL.of (s5 _ _ hha2), SqL.of (s5 _ _ hhb2), fun D hD => ?_⟩⟩
    refine lc_it (walk_zip (K := K) (a := ha) (b := hb) (xs := hv) (ys := hv3) rfl) (fun i G2 => Same G5 G2 ∧ G2 D = some (.lst (((clL n x held).take i).map V.bl))) ⟨same_new hD, upd_same⟩ (fun i G2 _ hP => ⟨SqL.of (hP.1 _ _ (s5 _ _ hha2)), SqL.of (hP.1 _ _ (s5 _ _ hhb2))⟩) (fun i x2 G2 G' hj hP hY => ?_) (fun G2 hP => ?_)
    · obtain ⟨s3, hd⟩ := hP
      obtain ⟨Tp, u, v, rfl, nT, rfl, e1, e2⟩ := hY
      replace e1 : hv[i]? = some u := e1
      replace e2 : hv3[i]? = some v := e2
      obtain ⟨hp3, xs, rfl, ex, hhp3⟩ := th3.get e2
      obtain ⟨op, ys, rfl, ey, hop⟩ := th.get e1
      rw [List.getElem?_map] at ex ey
      obtain ⟨hh, eh, rfl⟩ := Option.map_eq_some_iff.mp ex
      obtain ⟨og, eo, rfl⟩ := Option.map_eq_some_iff.mp ey
      obtain ⟨kl, _, xb, exb⟩ := nok.ho hh (List.mem_of_getElem? eh)
      have il := (List.getElem?_eq_some_iff.mp eh).1
      have sN := same_new (o := .tup [.ref op, .ref hp3]) nT
      have S3 := s3.trans sN
      have hhp4 := S3 _ _ (S5 _ _ hhp3)
      have hop4 := S3 _ _ (S5 _ _ hop)
      have h_sl4 := S3 _ _ h_sl
      have ll : hh.l < (n.spans x held).length := by
        rw [spans_len]
        exact (List.getElem?_eq_some_iff.mp exb).1
      obtain ⟨qs, es, hqs⟩ := spans_at tsl ll
      have hqs4 := S3 _ _ hqs
      refine ⟨Tp, _, rfl, SqT.of upd_same, rfl, _, _, rfl, _, _, rfl, rfl, rfl, ?_⟩
      have RW : ∀ (b : Bool) (H2 : Hp), H2 = upd G2 Tp (.tup [.ref op, .ref hp3]) → b = hasIn og ((n.spans x held).getD hh.l (0, 0)) → True := fun _ _ _ _ => trivial
      have fin : ∀ b : Bool, b = hasIn og ((n.spans x held).getD hh.l (0, 0)) → ∃ acc, (upd G2 Tp (.tup [.ref op, .ref hp3])) D = some (.lst acc) ∧ acc.length < sizeLine ∧ (Same G5 (upd (upd G2 Tp (.tup [.ref op, .ref hp3])) D (.lst (acc ++ [.bl b]))) ∧ (upd (upd G2 Tp (.tup [.ref op, .ref hp3])) D (.lst (acc ++ [.bl b]))) D = some (.lst (((clL n x held).take (i + 1)).map V.bl))) := fun b eb => by
        refine ⟨_, sN _ _ hd, ?_, fun c o e => ?_, ?_⟩
        · rw [List.length_map, List.length_take]
          exact sl_lt (by omega)
        · rw [upd_ne (ne_of_none e hD)]
          exact S3 _ _ e
        · rw [upd_same, List.take_add_one, clL_at eh eo, List.map_append, eb]
          rfl
      generalize hsp : (n.spans x held).getD hh.l (0, 0) = sp at *
      by_cases c1 : og.1 ≤ sp.1
      · refine ⟨_, rfl, op, _, 0, .int og.1, rfl, rfl, SqT.of hop4, a0, _, rfl, _, rfl, hp3, _, 2, .int hh.l, rfl, rfl, SqT.of hhp4, a2, sl, _, _, .ref qs, rfl, rfl, SqL.of h_sl4, atI_nat es, qs, _, 0, .int sp.1, rfl, rfl, SqT.of hqs4, a0, _, _, rfl, rfl, _, rfl, ?_⟩
        refine iteC (d := true) (decide_eq_true c1) (iteT ⟨_, rfl, _, rfl, hp3, _, 2, .int hh.l, rfl, rfl, SqT.of hhp4, a2, sl, _, _, .ref qs, rfl, rfl, SqL.of h_sl4, atI_nat es, qs, _, 1, .int sp.2, rfl, rfl, SqT.of hqs4, a1, _, rfl, op, _, 1, .int og.2, rfl, rfl, SqT.of hop4, a1, _, _, rfl, rfl, fin (decide (sp.2 ≤ og.2)) ?_⟩)
        show _ = (decide _ && decide _)
        rw [decide_eq_true c1, Bool.true_and]
      · refine ⟨_, rfl, op, _, 0, .int og.1, rfl, rfl, SqT.of hop4, a0, _, rfl, _, rfl, hp3, _, 2, .int hh.l, rfl, rfl, SqT.of hhp4, a2, sl, _, _, .ref qs, rfl, rfl, SqL.of h_sl4, atI_nat es, qs, _, 0, .int sp.1, rfl, rfl, SqT.of hqs4, a0, _, _, rfl, rfl, _, rfl, ?_⟩
        refine iteC (d := false) (decide_eq_false c1) (iteF (fin false ?_))
        show _ = (decide _ && decide _)
        rw [decide_eq_false c1, Bool.false_and]
    · obtain ⟨s3, hd⟩ := hP
      have em : min hv.length hv3.length = (clL n x held).length := by
        rw [clL_len]
        omega
      rw [em, List.take_length] at hd
      exact ⟨D, _, rfl, SqL.of hd, q _ (S5.trans s3)⟩
theorem sc__law_may_over : FnScope ["_law_parts", "_law_points_here", "_law_entered", "_law_hold_list", "_law_rows", "_law_found", "_law_at", "_law_row_here", "_law_ends"] ["_law_parts", "_law_points_here", "_law_entered", "_law_hold_list"] (defScope s__law_may_over) := ⟨rfl, rfl, rfl, by decide +kernel, rfl, by decide +kernel, by decide +kernel⟩
theorem ok__law_may_over {f : Addr} {fd : FuncData} (F : Fun K "_law_may_over" "_law_may_over" s__law_may_over f fd) (z : Zs mg) (c__law_keep : Cal P w K mg base 3 "_law_keep" ["_law_form_here", "_law_point", "_law_ends"] spLKeepS) (c__law_stretches : Cal P w K mg base 4 "_law_stretches" ["_law_parts", "_law_points_here", "_law_entered", "_law_hold_list"] spLStr) : FnOk P w K mg base CX0 5 f fd ["_law_parts", "_law_points_here", "_law_entered", "_law_hold_list"] spLMay := by
  refine F.ok sc__law_may_over (fun vs H Q E h => ?_) (fun cdv A outer s H vs Q E hr h => ?_)
  · obtain ⟨hp, pa, xa, n, x, v, os, k, rfl, _⟩ := h
    rfl
  · obtain ⟨hp, pa, xa, n, x, v, os, k, rfl, hpp, nok, l26, hpa, hxa, hbx, hib, bdo, k70, kb, zx, q⟩ := h
    refine ⟨_, (pss_cons (ps_set (i := 4) sc__law_may_over.nd rfl (.inl rfl) (pe_cal c__law_stretches hr (pa_cons (pv 0) (pa_cons (pv 1) (pa_cons (pv 2) (pa_cons (pv 3) pa_nil))))))
      (pss_cons (ps_set (i := 5) sc__law_may_over.nd rfl (.inl rfl) (pe_lst pa_nil))
      (pss_cons (ps_for PassesOwn.never rfl (pi_enum (by rfl) z.enumerate (pa_cons (pe_ix ix_tup (pv 0) pe_int (fun _ _ => rfl)) pa_nil)) (pg_tup (by rfl) (pgs_cons (pg_name (i := 6) sc__law_may_over.nd rfl (.inl rfl)) (pgs_cons (pg_name (i := 7) sc__law_may_over.nd rfl (.inl rfl)) pgs_nil))) (pss_one (ps_if (pt_cmpR op_eq (pe_ix ix_tup (pv 7) pe_int (fun _ _ => rfl)) pe_str (nomark _)) (pss_cons (ps_set (i := 8) sc__law_may_over.nd rfl (.inl rfl) (pe_cal c__law_keep hr (pa_cons (pe_ix ix_list (pe_ix ix_tup (pv 0) pe_int (fun _ _ => rfl)) (pe_ix ix_tup (pv 7) pe_int (fun _ _ => rfl)) (fun _ _ => rfl)) (pa_cons (pe_ix ix_list (pv 1) (pe_ix ix_tup (pv 7) pe_int (fun _ _ => rfl)) (fun _ _ => rfl)) (pa_cons (pe_ix ix_list (pv 4) (pe_ix ix_tup (pv 7) pe_int (fun _ _ => rfl)) (fun _ _ => rfl)) pa_nil)))))
      (pss_one (ps_if (pt_val (pe_ix ix_tup (pv 8) pe_int (fun _ _ => rfl))) (pss_one (ps_expr (pe_bm PySem.F.plainAttrs_list PySem.F.slot_list_append PySem.F.type_list_append mt_append (pv 5) (pa_cons (pv 6) pa_nil)))) pss_nil))) pss_nil)))
      (pss_one (ps_ret (pv 5)))))), ?_⟩
    obtain ⟨fa, ra, hb, hhp, ⟨fv, hfa, tf⟩, ⟨rv, hra, tr⟩, _⟩ := id hpp
    have h6 := nok.h2
    have r60 := nok.r2
    have lr := tr.rlen
    have lpt := pts_len n
    have gd : goodH n os = true := by
      replace hib : (goodH n os && _) = true := hib
      rw [Bool.and_eq_true] at hib
      exact hib.1
    have lbo : (downL os).length = n.holds.length := by
      have gd2 := gd
      unfold goodH at gd2
      rw [Bool.and_eq_true, decide_eq_true_eq] at gd2
      unfold downL
      rw [List.length_map]
      exact gd2.1
    obtain ⟨ha, hv, rfl, hha, ot⟩ := hbx
    rw [good_some gd] at ot
    have th := ot.ts
    unfold BdO at bdo
    clear hib gd ot
    generalize downL os = held at *
    refine ⟨_, rfl, _, rfl, _, rfl, _, rfl, hp, pa, xa, ha, n, x, held, hv, k, rfl, hpp, nok, l26, hpa, hxa, hha, th, lbo, k70, kb, zx, bdo, fun sl sv G5 sl0 s5 h_sl tsl => ?_⟩
    refine ⟨(by show 0 ≤ sizeLine; decide), fun dl hdl => ?_⟩
    generalize hGd : upd _ dl _ = G6
    obtain ⟨s6, h_dl⟩ := upd_gen hGd hdl
    have S6 := s5.trans s6
    have dl0 : H dl = none := s5.free hdl
    have bd9 := (spans_all nok l26 zx bdo k70).mono (j := 900000) (by omega)
    have nsd : sl ≠ dl := ne_of_none h_sl hdl
    replace h_sl := s6 _ _ h_sl
    replace tsl := tsl.same s6
    have h_dl6 := h_dl
    have npd : pa ≠ dl := ne_of_none hpa dl0
    have nfd : fa ≠ dl := ne_of_none hfa dl0
    have nrd : ra ≠ dl := ne_of_none hra dl0
    refine ⟨_, rfl, hp, _, 2, .ref ra, rfl, rfl, SqT.of (S6 _ _ hhp), a2, ra, _, rfl, SqL.of (S6 _ _ hra), ?_⟩
    refine for_it (walk_enum (K := K) (a := ra) (xs := rv)) (fun i σ G => ∃ y6 y7 y8 : Option V, σ = [some (.ref hp), some (.ref pa), some (.ref xa), some (.ref ha), some (.ref sl), some (.ref dl), y6, y7, y8] ∧ SameBut dl G6 G ∧ G dl = some (.lst (((List.range i).filter (overAt n x held)).map nI))) ⟨none, none, none, rfl, SameBut.refl _ _, h_dl⟩ (fun i σ G _ hP => ?_) (fun i v3 σ G0 G' hi hP hY => ?_) (fun σ G hP => ?_)
    · obtain ⟨y6, y7, y8, rfl, B, _⟩ := hP
      exact SqL.of (B _ _ nrd (S6 _ _ hra))
    · obtain ⟨y6, y7, y8, rfl, B, hd⟩ := hP
      obtain ⟨Tp, u, v', rfl, nT, rfl, e1, e2⟩ := hY
      cases e1
      obtain ⟨rp, xs, rfl, ex, hrp⟩ := tr.get e2
      rw [List.getElem?_map] at ex
      obtain ⟨r, er, rfl⟩ := Option.map_eq_some_iff.mp ex
      have il := (List.getElem?_eq_some_iff.mp er).1
      have sN := same_new (o := .tup [.int (i : Nat), .ref rp]) nT
      have B2 : SameBut dl G6 (upd G0 Tp (.tup [.int (i : Nat), .ref rp])) := B.trans (.of sN)
      have hT : (upd G0 Tp (.tup [.int (i : Nat), .ref rp])) Tp = some (.tup [.int (i : Nat), .ref rp]) := upd_same
      replace hd := sN _ _ hd
      generalize upd G0 Tp (.tup [.int (i : Nat), .ref rp]) = G2 at B2 hT hd ⊢
      clear B sN
      have TB : ∀ p ys, H p = some (.tup ys) → G2 p = some (.tup ys) := fun p ys e => B2 _ _ (ne_of_none e dl0) (S6 _ _ e)
      have hrp2 := TB _ _ hrp
      have small : ((((List.range i).filter (overAt n x held)).map nI)).length < sizeLine := sl_lt (by
        rw [List.length_map]
        have := List.length_filter_le (overAt n x held) (List.range i)
        rw [List.length_range] at this
        omega)
      refine ⟨Tp, _, rfl, SqT.of hT, rfl, _, _, rfl, _, _, rfl, rfl, ?_⟩
      have hok := nok.ro i r er
      have no : overAt n x held i = false → (((List.range (i + 1)).filter (overAt n x held)).map nI) = (((List.range i).filter (overAt n x held)).map nI) := fun e => by
        rw [range_filt, e, if_neg (by decide), List.append_nil]
      have skip : overAt n x held i = false → ∃ y6 y7 y8' : Option V, [some (V.ref hp), some (.ref pa), some (.ref xa), some (.ref ha), some (.ref sl), some (.ref dl), some (.int (i : Nat)), some (.ref rp), y8] = [some (V.ref hp), some (.ref pa), some (.ref xa), some (.ref ha), some (.ref sl), some (.ref dl), y6, y7, y8'] ∧ SameBut dl G6 G2 ∧ G2 dl = some (.lst (((List.range (i + 1)).filter (overAt n x held)).map nI)) := fun e => ⟨_, _, _, rfl, B2, by rw [no e]; exact hd⟩
      have nk : r.kd ≠ .keep → overAt n x held i = false := fun e => by
        unfold overAt
        rw [er]
        cases r with
        | keep f a => exact absurd rfl e
        | _ => rfl
      refine ⟨_, rfl, rp, _, 0, .str r.kd.s, rfl, rfl, SqT.of hrp2, atI_nat (j := 0) r.vs0, rfl, _, rfl, ?_⟩
      by_cases ck : r.kd = .keep
      rotate_left
      · exact iteC (d := false) (decide_eq_false (fun z => kd_ne _ _ ck (V.str.inj z))) (iteF (skip (nk ck)))
      refine iteC (d := true) (by rw [ck]; exact decide_eq_true rfl) (iteT ?_)
      match r, ck, hrp2, hok, er with
      | .keep f a, _, hrp2, hok, er =>
        obtain ⟨h1, h2⟩ := hok
        have ef := List.getElem?_eq_getElem h1
        have efr := frm_at ef
        obtain ⟨fp, ep, hfp⟩ := tf.at (i := f) (xs := (frm n.fs f).vs) (by rw [List.getElem?_map, ef, efr]; rfl)
        have fo : (frm n.fs f).Ok := by
          rw [efr]
          exact nok.fo _ (List.getElem_mem h1)
        have al : a < (n.spans x held).length := by
          rw [spans_len]
          omega
        obtain ⟨qa, ea, hqa⟩ := spans_at tsl al
        replace hqa := B2 _ _ (ne_of hqa h_dl6 (fun z => nomatch z)) hqa
        obtain ⟨p0, p1⟩ := nok.po (n.pts.getD a 0) (by
          rw [List.getD_eq_getElem?_getD, List.getElem?_eq_getElem (by omega)]
          exact List.getElem_mem _)
        refine ⟨_, rfl, hp, _, 0, .ref fa, rfl, rfl, SqT.of (TB _ _ hhp), a0, _, rfl, rp, _, 1, .int f, rfl, rfl, SqT.of hrp2, a1, fa, _, _, .ref fp, rfl, rfl, SqL.of (B2 _ _ nfd (S6 _ _ hfa)), atI_nat ep, _, rfl, _, rfl, rp, _, 2, .int a, rfl, rfl, SqT.of hrp2, a2, pa, _, _, _, rfl, rfl, SqL.of (B2 _ _ npd (S6 _ _ hpa)), ints_at (by omega), _, rfl, _, rfl, rp, _, 2, .int a, rfl, rfl, SqT.of hrp2, a2, sl, _, _, .ref qa, rfl, rfl, SqL.of (B2 _ _ nsd h_sl), atI_nat ea, fp, qa, frm n.fs f, _, _, rfl, TB _ _ hfp, fo, hqa, p0, p1, (bd9.get a).1, (bd9.get a).2, fun r2 G8 s8 h_r2 => ?_⟩
        refine ⟨_, rfl, r2, _, 2, .bl _, rfl, rfl, SqT.of h_r2, a2, _, rfl, ?_⟩
        have eo : overAt n x held i = overB (frm n.fs f) ((n.spans x held).getD a (0, 0)) (n.pts.getD a 0) := by
          unfold overAt
          rw [er]
        rw [← eo]
        cases ov : overAt n x held i with
        | true =>
          refine iteT ⟨_, rfl, .inl ⟨rfl, _, SqL.of (s8 _ _ hd)⟩, _, rfl, dl, _, _, rfl, rfl, s8 _ _ hd, small, _, _, _, rfl, (B2.trans (.of s8)).trans SameBut.upd, ?_⟩
          rw [upd_same, range_filt, ov, if_pos rfl, List.map_append]
          rfl
        | false => exact iteF ⟨_, _, _, rfl, B2.trans (.of s8), by rw [no ov]; exact s8 _ _ hd⟩
    · obtain ⟨y6, y7, y8, rfl, B, hd⟩ := hP
      rw [lr, ← may_is] at hd
      exact ⟨_, rfl, q dl G dl0 (same_but S6 B dl0) hd⟩
end
end E1

/-! ### a list walked, a def called, where an error is handled -/
namespace HotL
open PySem PySem.Spec PyProof.Rows L2 HotX L2H
section
variable {prog : Program} {w : World} {A : Around} {E : Value → Shared → Prop} {s : Shared}
/-- a list's walk comes to its end; the StopIteration gets the handled error for its context -/
theorem list_done {l c x1 : Addr} {k : Nat} {vs : Array Value} {Q : Option Value → Shared → Prop} (hot : HotAt A x1 s.heap) (at_ : s.heap.IsListIter c l k) (li : s.heap.IsList l vs) (over : vs[k]? = none)
    (q : ∀ h', (∀ b o, b ≠ c → s.heap.get? b = some o → h'.get? b = some o) → Q none { s with heap := h' }) : wpAny (model prog w) A (pyNext (.ref c)) Q E s := by
  have ty := at_.typeIs
  rcases at_ with ⟨oc, gc, kc, dc⟩
  rcases li with ⟨ol, gl, _, _, dl⟩
  rcases hot with ⟨hd, ox, fx, gx, dx, cx⟩
  have nx : x1 ≠ c := fun z => by
    rw [z, gc] at gx
    cases gx
    rw [dc] at dx
    cases dx
    cases cx
  unfold pyNext
  apply wpAny_bind
  apply wpAny_attempt
  apply wpAny_callSpecial?_slot (name := Str.ofString "__next__") ty slot_listiter_next
  apply wpAny_call_entry slot_listiter_next ty entry_listiter_next _ (args_listiter_next _)
  show wpAny _ _ (field (.ref c) 0 >>= fun z => _) _ _ s
  apply wpAny_bind
  apply wpAny_field gc dc (x := .ref l) rfl
  rw [if_neg (show ¬ (Value.ref l == Value.none) = true from fun z => nomatch z)]
  apply wpAny_bind
  apply wpAny_field gc dc (x := .int k 0) rfl
  apply wpAny_bind
  apply wpAny_seqItems gl dl
  simp only [Int.toNat_natCast, over]
  apply wpAny_bind
  apply wpAny_rule
  apply wpAny_bind
  apply wpAny_setField gc dc (by simp)
  have sz : x1 < s.heap.objs.size := Heap.lt_size gx
  have g0 : ∀ b o, b ≠ c → s.heap.get? b = some o → (s.heap.update c (Obj.mapFields fun x => x.setIfInBounds 0 Value.none)).get? b = some o := fun b o n e => by
    rw [Heap.get?_update_other _ _ n.symm]
    exact e
  have gx0 := g0 _ _ nx gx
  generalize s.heap.update c (Obj.mapFields fun x => x.setIfInBounds 0 Value.none) = h0 at g0 gx0 ⊢
  show wpAny _ _ (newExc (.type "StopIteration") [] >>= fun z => _) _ _ _
  apply wpAny_bind
  simp only [newExc, newTuple]
  apply wpAny_bind
  refine wpAny_newObj_type (?_) (by size_fits)
  apply wpAny_bind (m := firstArgMember _ _)
  refine wpAny_of_eq (a := Value.none) (by first | rfl | (simp only [firstArgMember]; rfl)) (?_)
  refine wpAny_newObj_type (?_) (by size_fits)
  have old : ∀ b o, h0.get? b = some o → (h0.push { cls := .type "tuple", data := .seq #[] }).get? b = some o := fun b o e => Heap.get?_push_of_some _ e
  generalize h0.push { cls := .type "tuple", data := .seq #[] } = h1 at old ⊢
  obtain ⟨fe, hfe⟩ : ∃ fe : Array Value, fe = #[Value.ref h0.objs.size, .none, .none, .none, .bool false, .none] ++ ownMembersOf (.type "StopIteration") [] := ⟨_, rfl⟩
  have six : 2 < fe.size := by
    rw [hfe, Array.size_append]
    exact Nat.lt_of_lt_of_le (by decide : 2 < 6) (Nat.le_add_right 6 _)
  dsimp only
  rw [← hfe]
  have new := Heap.get?_push_size (h := h1) (o := { cls := Value.type "StopIteration", data := Data.fields fe }) rfl
  have old2 : ∀ b o, h0.get? b = some o → (h1.push { cls := .type "StopIteration", data := .fields fe }).get? b = some o := fun b o e => Heap.get?_push_of_some _ (old b o e)
  have lt : ∀ b o, h0.get? b = some o → b < h1.objs.size := fun b o e => Heap.lt_size (old b o e)
  generalize h1.push { cls := Value.type "StopIteration", data := Data.fields fe } = h2 at new old2 ⊢
  refine raiseNew_hot (x1 := x1) ⟨hd, ox, fx, old2 _ _ gx0, dx, cx⟩ (Nat.ne_of_lt (lt _ _ gx0)) new rfl six ?_
  apply wpAny_bind
  refine wpAny_isInstance (T := "StopIteration") (b := true) ⟨_, Heap.get?_update_self _ new rfl, rfl⟩ isSubtype_stop ?_
  refine wpAny_pure (q _ fun b o n e => ?_)
  have e0 := g0 b o n e
  rw [Heap.get?_update_other _ _ (Nat.ne_of_gt (lt _ _ e0))]
  exact old2 _ _ e0
end
/-- the turns of a list's walk -/
theorem walkH {P : Program} {w : World} {K : PySem.W.Frag} {tg : Expr} (l c : Addr) : TurnH P w K tg (Itl K l) [c] c (fun j h => h.IsListIter c l j) := by
  have T := turn_list (P := P) (w := w) (K := K) (tg := tg) l c
  constructor
  · exact T.mem
  · exact T.obj
  · exact T.keep
  · rintro X rfl rfl rfl - j pins s σ H E I fp at_ ⟨xs, v, sq, here⟩
    obtain ⟨vs, rel, pl, -⟩ := I.list sq
    obtain ⟨u, hu, ru⟩ := rel.get here
    obtain ⟨f0, f1, f2, f3, f4, f5⟩ := fp c (List.mem_singleton.mpr rfl)
    apply wpAny_pyNext_list_item at_ pl.isList (x := u) (by simpa using hu)
    intro h' next but
    obtain ⟨o, e, k, d⟩ := id next
    have J : Inv X pins σ H { s with heap := h' } := I.turned (t' := s.toks) (fun b o n e => (but.2 b n).trans e) f0 f1 f3 f4 f5
    exact ⟨u, rfl, go_of (s := { s with heap := h' }) e k d (by decide) ⟨v, H, J, ru, ⟨rfl, fun ys hy => (I.list_inj hy sq).symm ▸ here⟩, next, fun b hb => (fp b hb).1⟩⟩
  · rintro X rfl rfl rfl hc j pins s σ H E I fp at_ ⟨xs, sq, over⟩
    obtain ⟨vs, rel, pl, -⟩ := I.list sq
    obtain ⟨f0, f1, f2, f3, f4, f5⟩ := fp c (List.mem_singleton.mpr rfl)
    obtain ⟨x1, hot⟩ := hc.at I
    have len := rel.length
    exact list_done hot at_ pl.isList (by simp; omega) fun h' same => ⟨rfl, I.turned (t' := s.toks) same f0 f1 f3 f4 f5⟩
  · exact T.self
theorem pi_listH {X : Cx} {tg l : Expr} {tl : TE} (hl : PE X l tl) : PIH X tg l (iList X.K tl) := by
  constructor
  intro pins s σ H R I h
  apply thn (hl.run pins s σ H _ I h)
  rintro v s1 ⟨x, H1, I1, r1, a, rfl, ⟨xs, sq⟩, q⟩
  cases r1
  obtain ⟨vs, rel, pl, -⟩ := I1.list sq
  apply wpAny_pyIter_list pl.isList
  refine ⟨s1.heap.objs.size, [s1.heap.objs.size], _, _, H1, rfl, ?_, walkH a _, ?_, ?_, q⟩
  · exact I1.kept (t' := s1.toks) fun b o e => Heap.get?_push_of_some _ e
  · exact ⟨_, Heap.get?_push_size _ rfl, rfl, rfl⟩
  · intro b hb
    rw [List.mem_singleton.mp hb]
    have top := Nat.le_refl s1.heap.objs.size
    exact I1.fpOk top (I1.hok.fresh top)
end HotL

namespace E1
open PySem PySem.Spec PyProof.Rows L2

/-! ### defs whose errors come without a context -/
section
variable {P : Program} {w : World} {K : PySem.W.Frag} {mg : Str → Option Value} {base : Heap}
theorem okC {CX : CXT} {x qual : Str} {st : Stmt} {f : Addr} {fd : FuncData} {N ps : List Str} {k : Nat} {sp : Sp} (F : Fun K x qual st f fd) (S : FnScope N ps (defScope st)) (len : ∀ vs H Q E, sp vs H Q E → vs.length = ps.length)
    (body : ∀ (cdv : Value) (A : Around) (outer : List Env) (s : Shared) (H : Hp) (vs : List V) (Q : VK) (E : XK), Room k (A.deeper (envOfC qual (defScope st) s.heap.objs.size f cdv)) → sp vs H Q E →
      ∃ t, PSs (cxOf CX P w K mg base N qual (defScope st) f cdv A outer s H E) (defBody st) t ∧ t { nx := fun _ G => Q .non G, rt := Q } (L2.start N vs) H) : FnOk P w K mg base CX (k + 1) f fd ps sp := by
  rcases F.ex with ⟨_, _, _, _, _, _, cd, _, _, same, look, code⟩
  subst same
  exact fn_of look code S len fun A outer s H vs Q E room h => body cd A outer s H vs Q E room h
/-- the same where an error is handled -/
theorem okH {CX : CXT} {x qual : Str} {st : Stmt} {f : Addr} {fd : FuncData} {N ps : List Str} {k : Nat} {sp : Sp} (F : Fun K x qual st f fd) (S : FnScope N ps (defScope st)) (len : ∀ vs H Q E, sp vs H Q E → vs.length = ps.length)
    (body : ∀ (cdv : Value) (A : Around) (outer : List Env) (s : Shared) (H : Hp) (vs : List V) (Q : VK) (E : XK) (p : Addr × Obj), L2H.Hot1 A p → L2H.RoomH k (A.deeper (envOfC qual (defScope st) s.heap.objs.size f cdv)) → sp vs H Q E →
      ∃ t, PSs (L2H.cxH CX P w K mg base N qual (defScope st) f cdv A outer s H E p) (defBody st) t ∧ t { nx := fun _ G => Q .non G, rt := Q } (L2.start N vs) H) : L2H.FnH P w K mg base CX (k + 1) f fd ps sp := by
  rcases F.ex with ⟨_, _, _, _, _, _, cd, _, _, same, look, code⟩
  subst same
  exact L2H.fn_ofH look code S len fun A outer s H vs Q E p hot room h => body cd A outer s H vs Q E p hot room h
def CalN (P : Program) (w : World) (K : PySem.W.Frag) (mg : Str → Option Value) (base : Heap) (k : Nat) (x : Str) (ps : List Str) (dvs : List V) (sp : Sp) : Prop := ∃ (f : Addr) (fd : FuncData) (ds : List Value), mg x = some (.ref f) ∧ PySem.W.keepIn K (.ref f) = true ∧ Vals dvs ds ∧ Binds K fd ps ds ∧ FnOk P w K mg base (L2N.CX P w) k f fd ps sp
theorem pe_calN {X : Cx} {k j : Nat} {x : Str} {ps : List Str} {dvs : List V} {sp : Sp} {e : Expr} {es : List Expr} {t : TA} {p pos : Pos} {W : WX} (c : CalN X.prog X.w X.K X.mg X.base k x ps dvs sp) (hr : Room j X.A) (tk : L2N.Takes X W) (ha : PA X (e :: es) t) (hle : k ≤ j := by decide) (hg : Gl X x := by rfl)
    (hdb : (x == ("__debug__" : Str)) = false := by decide) (he : starEach (e :: es) X.env = (false, eval e X.env) :: starEach es X.env := by rfl) (hpl : (backTo pos (starEach es X.env)).any (·.1) = false := by rfl) :
    PE X (.Call (.Name x p) (e :: es) [] pos) (tCallSD sp dvs (WE W) t) := by
  obtain ⟨f, fd, ds, c1, c2, c3, c4, c5⟩ := c
  exact pe_callSD c5 (hr.mono hle) hg c1 c2 c4 c3 (L2N.passAt tk) ha hdb he hpl
def CalH (P : Program) (w : World) (K : PySem.W.Frag) (mg : Str → Option Value) (base : Heap) (k : Nat) (x : Str) (ps : List Str) (sp : Sp) : Prop := ∃ (f : Addr) (fd : FuncData), mg x = some (.ref f) ∧ PySem.W.keepIn K (.ref f) = true ∧ Binds K fd ps [] ∧ L2H.FnH P w K mg base CX0 k f fd ps sp
theorem pe_calH {X : Cx} {k j : Nat} {x : Str} {ps : List Str} {sp : Sp} {e : Expr} {es : List Expr} {t : TA} {p pos : Pos} (c : CalH X.prog X.w X.K X.mg X.base k x ps sp) (hr : L2H.RoomH j X.A) (hot : L2H.HotC X) (ha : PA X (e :: es) t) (hle : k ≤ j := by decide) (hg : Gl X x := by rfl)
    (hdb : (x == ("__debug__" : Str)) = false := by decide) (he : starEach (e :: es) X.env = (false, eval e X.env) :: starEach es X.env := by rfl) (hpl : (backTo pos (starEach es X.env)).any (·.1) = false := by rfl) :
    PE X (.Call (.Name x p) (e :: es) [] pos) (tCallS sp (fun _ => E0) t) := by
  obtain ⟨f, fd, c1, c2, c3, c4⟩ := c
  exact L2H.pe_callH c4 (hr.mono hle) hot hg c1 c2 c3 (fun _ _ _ _ _ _ _ h => h.elim) ha hdb he hpl
end

/-- things, none of them the well's list -/
def BxN (a : Addr) (H : Hp) (x : V) : Option (List (Option Sp2)) → Prop
  | some os => ∃ p vs, x = .ref p ∧ p ≠ a ∧ H p = some (.lst vs) ∧ OtAt H vs os
  | none => BxAt H x none
theorem BxN.go {a : Addr} {H G : Hp} {x : V} {b : Option (List (Option Sp2))} {ys zs : List V} (h : BxN a H x b) (s : SameBut a H G) (ha : H a = some (.lst ys)) (hg : G a = some (.lst zs)) : BxAt G x b := by
  have k2 : ∀ p xs, H p = some (.tup xs) → G p = some (.tup xs) := fun p xs e => s _ _ (ne_of e ha (fun z => nomatch z)) e
  cases b with
  | none =>
    rcases h with h | h | ⟨p, xs, e, h⟩
    · exact .inl h
    · exact .inr (.inl h)
    · exact .inr (.inr ⟨p, xs, e, k2 _ _ h⟩)
  | some os =>
    obtain ⟨p, vs, e, n, h, t⟩ := h
    refine ⟨p, vs, e, s _ _ n h, t.map (fun q xs e => ?_) k2⟩
    by_cases c : q = a
    · exact ⟨zs, by rw [c]; exact hg⟩
    · exact ⟨xs, s _ _ c e⟩
theorem OtAt.app {H : Hp} {vs ws : List V} {os qs : List (Option Sp2)} (h : OtAt H vs os) (g : OtAt H ws qs) : OtAt H (vs ++ ws) (os ++ qs) := by
  refine ⟨by rw [List.length_append, List.length_append, h.len, g.len], fun i v e => ?_⟩
  by_cases c : i < vs.length
  · rw [List.getElem?_append_left c] at e
    obtain ⟨o, e2, t⟩ := h.at_ i v e
    exact ⟨o, by rw [List.getElem?_append_left (by rw [← h.len]; exact c)]; exact e2, t⟩
  · rw [List.getElem?_append_right (by omega)] at e
    obtain ⟨o, e2, t⟩ := g.at_ _ v e
    exact ⟨o, by rw [List.getElem?_append_right (by rw [← h.len]; omega), ← h.len]; exact e2, t⟩
theorem OtAt.one {H : Hp} {v : V} {o : Option Sp2} (h : ThAt H v o) : OtAt H [v] [o] := ⟨rfl, fun i u e => by
  match i with
  | 0 =>
    cases e
    exact ⟨o, rfl, h⟩
  | i + 1 => cases e⟩
theorem BdO.app {k : Nat} {os qs : List (Option Sp2)} (h : BdO k os) (g : BdO k qs) : BdO k (os ++ qs) := by
  unfold BdO downL at *
  rw [List.map_append]
  intro s hs
  rcases List.mem_append.mp hs with hs | hs
  · exact h s hs
  · exact g s hs
theorem BdO.of {k : Nat} {l : List Sp2} (h : BdS k l) : BdO k (l.map some) := by
  unfold BdO
  rw [down_some]
  exact h
def OneB (k : Nat) (o : Option Sp2) : Prop := (o.getD (0, 0)).1.natAbs < 2 ^ k ∧ (o.getD (0, 0)).2.natAbs < 2 ^ k
theorem BdO.one {k : Nat} {o : Option Sp2} (h : OneB k o) : BdO k [o] := fun s hs => by
  rw [List.mem_singleton.mp hs]
  exact h
theorem BdS.sub {k : Nat} {l m : List Sp2} (h : BdS k l) (s : ∀ x ∈ m, x ∈ l) : BdS k m := fun x hx => h x (s x hx)
theorem add_lt {x y : Int} {k : Nat} (h : x.natAbs < 2 ^ k) (g : y.natAbs < 2 ^ 63) (l : 70 ≤ k) : (x + y).natAbs < 2 ^ (k + 200) := by
  have e1 : 2 ^ 63 ≤ 2 ^ k := Nat.pow_le_pow_right (by decide) (by omega)
  have e2 : 2 ^ k * 2 ≤ 2 ^ (k + 200) := by
    rw [← Nat.pow_succ]
    exact Nat.pow_le_pow_right (by decide) (by omega)
  omega
theorem pow10_lt : ((10 : Int) ^ (30 : Int).toNat).natAbs < 2 ^ 100 := by decide +kernel
/-- a flat thing that is no word -/
def FlatBad (w : Option Int) (v : V) : Prop := (∃ k, v = .int k ∧ inR w k = false) ∨ v = .non ∨ (∃ b, v = .bl b) ∨ ∃ z, v = .str z
theorem FlatBad.no {K : PySem.W.Frag} {w : Option Int} {v : V} (h : FlatBad w v) (H : Hp) : (∃ k, v = .int k ∧ inR w k = false) ∨ WholeIs K H v false := by
  rcases h with h | rfl | ⟨b, rfl⟩ | ⟨z, rfl⟩
  · exact .inl h
  · exact .inr (.inr (.inr ⟨rfl, _, .base .non, by decide +kernel⟩))
  · exact .inr (.inr (.inl ⟨b, rfl, rfl⟩))
  · exact .inr (.inr (.inr ⟨rfl, _, .base (.str z), by decide +kernel⟩))
def BadEnds (w : Option Int) (x y : V) : Prop := FlatBad w x ∨ ∃ k, x = .int k ∧ inR w k = true ∧ (FlatBad w y ∨ ∃ j, y = .int j ∧ inR w j = true ∧ j < k)
theorem BadEnds.no {K : PySem.W.Frag} {H : Hp} {w : Option Int} {x y : V} (h : BadEnds w x y) : NoEnds K H w x y := by
  rcases h with h | ⟨k, e, i, h | h⟩
  · exact .inl fun H' _ => h.no H'
  · exact .inr ⟨k, e, i, .inl fun H' _ => h.no H'⟩
  · exact .inr ⟨k, e, i, .inr h⟩
def BadMany (m : V) : Prop := (∃ i : Int, m = .int i ∧ (i < 1 ∨ 40 < i)) ∨ m = .non ∨ ∃ b, m = .bl b
theorem BadMany.no {K : PySem.W.Frag} {H : Hp} {m : V} (h : BadMany m) : NoMany6 K H m := by
  rcases h with h | rfl | ⟨b, rfl⟩
  · exact .inl h
  · exact .inr fun _ _ => .inr (.inr ⟨rfl, _, .base .non, by decide +kernel⟩)
  · exact .inr fun _ _ => .inr (.inl ⟨b, rfl, rfl⟩)
/-- the three things with which box is asked in vain -/
def BadThree (w : Option Int) (x y m : V) : Prop := (m = .int 20 ∧ BadEnds w x y) ∨ (BadMany m ∧ ∃ lo hi, x = .int lo ∧ y = .int hi ∧ inR w lo = true ∧ inR w hi = true ∧ lo ≤ hi)
def spLBadW : Sp := fun vs H Q _ => ∃ (a p : Addr) (f : FormP) (c : Int), vs = [.ref a, .ref p] ∧ H p = some (.tup f.vs) ∧ f.Ok ∧ WellAt H a c ∧ 0 ≤ c ∧ c ≤ 10000 ∧ ∀ (t : Addr) (x y m : V) (H' : Hp), BadThree f.w x y m → SameBut a H H' → WellAt H' a (c + 1) → H' t = some (.tup [x, y, m]) → Q (.ref t) H'
def spLForged : Sp := fun vs H Q _ => ∃ (B : Hp) (a hp L : Addr) (n : NetP) (held : List Sp2) (hv : List V) (k : Nat) (c : Int), vs = [.ref a, .ref hp, .ref L] ∧ Same B H ∧ B a = none ∧ PartsAt B hp n ∧ NetOk n ∧ H L = some (.lst hv) ∧ TsAt H hv (held.map spV) ∧ L ≠ a ∧ held.length = n.holds.length ∧ BdS k held ∧ 110 ≤ k ∧ WellAt H a c ∧ 0 ≤ c ∧ c ≤ 1000 ∧
  ∀ (x : V) (b : Option (List (Option Sp2))) (H' : Hp), SameBut a H H' → WellAt H' a (c + 6) → BxN a H' x b → (∀ os, b = some os → os.length ≤ 1000 ∧ BdO (k + 200) os) → Q x H'
section
variable {P : Program} {w : World} {K : PySem.W.Frag} {mg : Str → Option Value} {base : Heap}
theorem sc__law_all : FnScope ["_law_parts", "_law_found", "_law_hold", "_law_room"] ["_law_parts"] (defScope s__law_all) := ⟨rfl, rfl, rfl, by decide +kernel, rfl, by decide +kernel, by decide +kernel⟩
theorem ok__law_all {f : Addr} {fd : FuncData} {k : Nat} (F : Fun K "_law_all" "_law_all" s__law_all f fd) (z : Zs mg) : FnOk P w K mg base CX0 (k + 1) f fd ["_law_parts"] spLAll := by
  refine F.ok sc__law_all (fun vs H Q E h => ?_) (fun cdv A outer s H vs Q E hr h => ?_)
  · obtain ⟨hp, n, rfl, _⟩ := h
    rfl
  · obtain ⟨hp, n, rfl, hpp, nok, q⟩ := h
    refine ⟨_, (pss_cons (ps_set (i := 1) sc__law_all.nd rfl (.inl rfl) (pe_lst pa_nil))
      (pss_cons (ps_for PassesOwn.never rfl (pi_list (pe_ix ix_tup (pv 0) pe_int (fun _ _ => rfl))) (pg_name (i := 2) sc__law_all.nd rfl (.inl rfl)) (pss_cons (ps_set (i := 3) sc__law_all.nd rfl (.inl rfl) (pe_op op_pow pe_int pe_int))
      (C8.pss_cut (ps_if (pt_cmpR op_notN (pe_ix ix_tup (pe_ix ix_list (pe_ix ix_tup (pv 0) pe_int (fun _ _ => rfl)) (pe_ix ix_tup (pv 2) pe_int (fun _ _ => rfl)) (fun _ _ => rfl)) pe_int (fun _ _ => rfl)) pe_non (nomark _)) (pss_one (ps_set (i := 3) sc__law_all.nd rfl (.inl rfl) (pe_op op_shlW pe_int (pe_op op_sub (pe_ix ix_tup (pe_ix ix_list (pe_ix ix_tup (pv 0) pe_int (fun _ _ => rfl)) (pe_ix ix_tup (pv 2) pe_int (fun _ _ => rfl)) (fun _ _ => rfl)) pe_int (fun _ _ => rfl)) pe_int)))) pss_nil)
      (pss_one (ps_expr (pe_bm PySem.F.plainAttrs_list PySem.F.slot_list_append PySem.F.type_list_append mt_append (pv 1) (pa_cons (pe_tup (pa_cons (pe_op op_sub pe_int (pv 3)) (pa_cons (pe_op op_sub (pv 3) pe_int) pa_nil))) pa_nil)))))))
      (pss_one (ps_ret (pv 1))))), ?_⟩
    obtain ⟨fa, ra, hb, hhp, ⟨fv, hfa, tf⟩, _, ⟨hv3, hhb, th3⟩⟩ := id hpp
    have h6 := nok.h2
    have l3 := th3.len
    rw [List.length_map] at l3
    refine ⟨(by show 0 ≤ sizeLine; decide), fun dl hdl => ?_⟩
    generalize hGd : upd _ dl _ = G0
    obtain ⟨s0, h_dl⟩ := upd_gen hGd hdl
    have nbd : hb ≠ dl := ne_of_none hhb hdl
    have nfd : fa ≠ dl := ne_of_none hfa hdl
    refine ⟨_, rfl, hp, _, 3, .ref hb, rfl, rfl, SqT.of (s0 _ _ hhp), atI_nat (j := 3) rfl, hb, rfl, ⟨_, SqL.of (s0 _ _ hhb)⟩, ?_⟩
    refine for_it (walk_list (K := K) (a := hb) (xs := hv3)) (fun i σ G => ∃ (y2 y3 : Option V) (held : List Sp2) (lv : List V), σ = [some (.ref hp), some (.ref dl), y2, y3] ∧ SameBut dl G0 G ∧ G dl = some (.lst lv) ∧ TsAt G lv (held.map spV) ∧ held.length = i ∧ BdS 110 held) ⟨none, none, [], [], rfl, SameBut.refl _ _, h_dl, .nil, rfl, fun s z => nomatch z⟩ (fun i σ G _ hP => ?_) (fun i v σ G G' hi hP hY => ?_) (fun σ G hP => ?_)
    · obtain ⟨y2, y3, held, lv, rfl, B, _⟩ := hP
      exact SqL.of (B _ _ nbd (s0 _ _ hhb))
    · obtain ⟨y2, y3, held, lv, rfl, B, hd, tl, lh, bd⟩ := hP
      obtain ⟨rfl, hx⟩ := hY
      obtain ⟨hp3, xs, rfl, ex, hhp3⟩ := th3.get hx
      rw [List.getElem?_map] at ex
      obtain ⟨hh, eh, rfl⟩ := Option.map_eq_some_iff.mp ex
      obtain ⟨kl, _, _⟩ := nok.ho hh (List.mem_of_getElem? eh)
      have TB : ∀ p ys, H p = some (.tup ys) → G' p = some (.tup ys) := fun p ys e => B _ _ (ne_of_none e hdl) (s0 _ _ e)
      have hhp4 := TB _ _ hhp3
      have lv6 := tl.len
      rw [List.length_map] at lv6
      have ef := List.getElem?_eq_getElem kl
      have efr := frm_at ef
      obtain ⟨fp, ep, hfp⟩ := tf.at (i := hh.k) (xs := (frm n.fs hh.k).vs) (by rw [List.getElem?_map, ef, efr]; rfl)
      have fo : (frm n.fs hh.k).Ok := by
        rw [efr]
        exact nok.fo _ (List.getElem_mem kl)
      have hfp3 := TB _ _ hfp
      refine ⟨_, _, rfl, rfl, ⟨by decide, by decide, by decide⟩, ?_⟩
      refine ⟨fun σ G => ∃ r : Int, σ = [some (.ref hp), some (.ref dl), some (.ref hp3), some (.int r)] ∧ G = G' ∧ r.natAbs < 2 ^ 100, ?_, fun σ G hM => ?_⟩
      · have PF := fun (wv : V) (e : (frm n.fs hh.k).vs[0]? = some wv) => atI_nat (j := 0) e
        cases ew : (frm n.fs hh.k).w with
        | none =>
          have e0 : (frm n.fs hh.k).vs[0]? = some V.non := by
            unfold FormP.vs
            rw [ew]
            rfl
          exact ⟨_, rfl, hp, _, 0, .ref fa, rfl, rfl, SqT.of (TB _ _ hhp), a0, _, rfl, hp3, _, 0, .int hh.k, rfl, rfl, SqT.of hhp4, a0, fa, _, _, .ref fp, rfl, rfl, SqL.of (B _ _ nfd (s0 _ _ hfa)), atI_nat ep, fp, _, 0, .non, rfl, rfl, SqT.of hfp3, PF _ e0, rfl, _, rfl, iteF ⟨_, rfl, rfl, pow10_lt⟩⟩
        | some y =>
          have e0 : (frm n.fs hh.k).vs[0]? = some (V.int y) := by
            unfold FormP.vs
            rw [ew]
            rfl
          obtain ⟨y0, y1⟩ := fo.wo y ew
          have ey : y - 1 = (((y - 1).toNat : Nat) : Int) := by omega
          have cs : CShl 1 (y - 1) := by
            rw [ey]
            exact shl_ok (n := 1) (by decide) (by omega)
          have st := small_two y0 y1
          refine ⟨_, rfl, hp, _, 0, .ref fa, rfl, rfl, SqT.of (TB _ _ hhp), a0, _, rfl, hp3, _, 0, .int hh.k, rfl, rfl, SqT.of hhp4, a0, fa, _, _, .ref fp, rfl, rfl, SqL.of (B _ _ nfd (s0 _ _ hfa)), atI_nat ep, fp, _, 0, .int y, rfl, rfl, SqT.of hfp3, PF _ e0, rfl, _, rfl, iteT ?_⟩
          refine ⟨_, rfl, hp, _, 0, .ref fa, rfl, rfl, SqT.of (TB _ _ hhp), a0, _, rfl, hp3, _, 0, .int hh.k, rfl, rfl, SqT.of hhp4, a0, fa, _, _, .ref fp, rfl, rfl, SqL.of (B _ _ nfd (s0 _ _ hfa)), atI_nat ep, fp, _, 0, .int y, rfl, rfl, SqT.of hfp3, PF _ e0, _, _, rfl, rfl, _, _, rfl, rfl, cs, _, rfl, rfl, ?_⟩
          rw [Int.one_mul]
          exact up st.2 (by decide)
      obtain ⟨r, rfl, rfl, hr⟩ := hM
      refine ⟨_, rfl, .inl ⟨rfl, _, SqL.of hd⟩, _, rfl, _, _, rfl, rfl, _, rfl, _, _, rfl, rfl, (by show 2 ≤ sizeLine; decide), fun t ht => ?_⟩
      generalize hGt : upd _ t _ = G4
      obtain ⟨s4, h_t⟩ := upd_gen hGt ht
      refine ⟨dl, _, _, rfl, rfl, s4 _ _ hd, sl_lt (by omega), _, _, held ++ [(0 - r, r - 1)], _, rfl, (B.trans (.of s4)).trans SameBut.upd, upd_same, ?_, by rw [List.length_append, lh]; rfl, fun s hs => ?_⟩
      · rw [List.map_append]
        exact TsAt.push (s4 _ _ hd) (tl.same s4) h_t
      · rcases List.mem_append.mp hs with hs | hs
        · exact bd s hs
        · rw [List.mem_singleton.mp hs]
          have : (2 : Nat) ^ 100 * 2 ≤ 2 ^ 110 := by decide
          exact ⟨by show (0 - r).natAbs < 2 ^ 110; omega, by show (r - 1).natAbs < 2 ^ 110; omega⟩
    · obtain ⟨y2, y3, held, lv, rfl, B, hd, tl, lh, bd⟩ := hP
      exact ⟨_, rfl, q dl lv held G hdl (same_but s0 B hdl) hd tl (by omega) bd⟩
theorem ok__law_allH {f : Addr} {fd : FuncData} (F : Fun K "_law_all" "_law_all" s__law_all f fd) (z : Zs mg) : L2H.FnH P w K mg base CX0 1 f fd ["_law_parts"] spLAll := by
  refine okH F sc__law_all (fun vs H Q E h => ?_) (fun cdv A outer s H vs Q E px hot hr h => ?_)
  · obtain ⟨hp, n, rfl, _⟩ := h
    rfl
  · obtain ⟨hp, n, rfl, hpp, nok, q⟩ := h
    refine ⟨_, (pss_cons (ps_set (i := 1) sc__law_all.nd rfl (.inl rfl) (pe_lst pa_nil))
      (pss_cons (L2H.ps_forH (passes_of rfl) ⟨px, hot, List.mem_singleton_self _⟩ (HotL.pi_listH (pe_ix ix_tup (pv 0) pe_int (fun _ _ => rfl))) (pg_name (i := 2) sc__law_all.nd rfl (.inl rfl)) (pss_cons (ps_set (i := 3) sc__law_all.nd rfl (.inl rfl) (pe_op op_pow pe_int pe_int))
      (C8.pss_cut (ps_if (pt_cmpR op_notN (pe_ix ix_tup (pe_ix ix_list (pe_ix ix_tup (pv 0) pe_int (fun _ _ => rfl)) (pe_ix ix_tup (pv 2) pe_int (fun _ _ => rfl)) (fun _ _ => rfl)) pe_int (fun _ _ => rfl)) pe_non (nomark _)) (pss_one (ps_set (i := 3) sc__law_all.nd rfl (.inl rfl) (pe_op op_shlW pe_int (pe_op op_sub (pe_ix ix_tup (pe_ix ix_list (pe_ix ix_tup (pv 0) pe_int (fun _ _ => rfl)) (pe_ix ix_tup (pv 2) pe_int (fun _ _ => rfl)) (fun _ _ => rfl)) pe_int (fun _ _ => rfl)) pe_int)))) pss_nil)
      (pss_one (ps_expr (pe_bm PySem.F.plainAttrs_list PySem.F.slot_list_append PySem.F.type_list_append mt_append (pv 1) (pa_cons (pe_tup (pa_cons (pe_op op_sub pe_int (pv 3)) (pa_cons (pe_op op_sub (pv 3) pe_int) pa_nil))) pa_nil)))))))
      (pss_one (ps_ret (pv 1))))), ?_⟩
    obtain ⟨fa, ra, hb, hhp, ⟨fv, hfa, tf⟩, _, ⟨hv3, hhb, th3⟩⟩ := id hpp
    have h6 := nok.h2
    have l3 := th3.len
    rw [List.length_map] at l3
    refine ⟨(by show 0 ≤ sizeLine; decide), fun dl hdl => ?_⟩
    generalize hGd : upd _ dl _ = G0
    obtain ⟨s0, h_dl⟩ := upd_gen hGd hdl
    have nbd : hb ≠ dl := ne_of_none hhb hdl
    have nfd : fa ≠ dl := ne_of_none hfa hdl
    refine ⟨_, rfl, hp, _, 3, .ref hb, rfl, rfl, SqT.of (s0 _ _ hhp), atI_nat (j := 3) rfl, hb, rfl, ⟨_, SqL.of (s0 _ _ hhb)⟩, ?_⟩
    refine for_it (walk_list (K := K) (a := hb) (xs := hv3)) (fun i σ G => ∃ (y2 y3 : Option V) (held : List Sp2) (lv : List V), σ = [some (.ref hp), some (.ref dl), y2, y3] ∧ SameBut dl G0 G ∧ G dl = some (.lst lv) ∧ TsAt G lv (held.map spV) ∧ held.length = i ∧ BdS 110 held) ⟨none, none, [], [], rfl, SameBut.refl _ _, h_dl, .nil, rfl, fun s z => nomatch z⟩ (fun i σ G _ hP => ?_) (fun i v σ G G' hi hP hY => ?_) (fun σ G hP => ?_)
    · obtain ⟨y2, y3, held, lv, rfl, B, _⟩ := hP
      exact SqL.of (B _ _ nbd (s0 _ _ hhb))
    · obtain ⟨y2, y3, held, lv, rfl, B, hd, tl, lh, bd⟩ := hP
      obtain ⟨rfl, hx⟩ := hY
      obtain ⟨hp3, xs, rfl, ex, hhp3⟩ := th3.get hx
      rw [List.getElem?_map] at ex
      obtain ⟨hh, eh, rfl⟩ := Option.map_eq_some_iff.mp ex
      obtain ⟨kl, _, _⟩ := nok.ho hh (List.mem_of_getElem? eh)
      have TB : ∀ p ys, H p = some (.tup ys) → G' p = some (.tup ys) := fun p ys e => B _ _ (ne_of_none e hdl) (s0 _ _ e)
      have hhp4 := TB _ _ hhp3
      have lv6 := tl.len
      rw [List.length_map] at lv6
      have ef := List.getElem?_eq_getElem kl
      have efr := frm_at ef
      obtain ⟨fp, ep, hfp⟩ := tf.at (i := hh.k) (xs := (frm n.fs hh.k).vs) (by rw [List.getElem?_map, ef, efr]; rfl)
      have fo : (frm n.fs hh.k).Ok := by
        rw [efr]
        exact nok.fo _ (List.getElem_mem kl)
      have hfp3 := TB _ _ hfp
      refine ⟨_, _, rfl, rfl, ⟨by decide, by decide, by decide⟩, ?_⟩
      refine ⟨fun σ G => ∃ r : Int, σ = [some (.ref hp), some (.ref dl), some (.ref hp3), some (.int r)] ∧ G = G' ∧ r.natAbs < 2 ^ 100, ?_, fun σ G hM => ?_⟩
      · have PF := fun (wv : V) (e : (frm n.fs hh.k).vs[0]? = some wv) => atI_nat (j := 0) e
        cases ew : (frm n.fs hh.k).w with
        | none =>
          have e0 : (frm n.fs hh.k).vs[0]? = some V.non := by
            unfold FormP.vs
            rw [ew]
            rfl
          exact ⟨_, rfl, hp, _, 0, .ref fa, rfl, rfl, SqT.of (TB _ _ hhp), a0, _, rfl, hp3, _, 0, .int hh.k, rfl, rfl, SqT.of hhp4, a0, fa, _, _, .ref fp, rfl, rfl, SqL.of (B _ _ nfd (s0 _ _ hfa)), atI_nat ep, fp, _, 0, .non, rfl, rfl, SqT.of hfp3, PF _ e0, rfl, _, rfl, iteF ⟨_, rfl, rfl, pow10_lt⟩⟩
        | some y =>
          have e0 : (frm n.fs hh.k).vs[0]? = some (V.int y) := by
            unfold FormP.vs
            rw [ew]
            rfl
          obtain ⟨y0, y1⟩ := fo.wo y ew
          have ey : y - 1 = (((y - 1).toNat : Nat) : Int) := by omega
          have cs : CShl 1 (y - 1) := by
            rw [ey]
            exact shl_ok (n := 1) (by decide) (by omega)
          have st := small_two y0 y1
          refine ⟨_, rfl, hp, _, 0, .ref fa, rfl, rfl, SqT.of (TB _ _ hhp), a0, _, rfl, hp3, _, 0, .int hh.k, rfl, rfl, SqT.of hhp4, a0, fa, _, _, .ref fp, rfl, rfl, SqL.of (B _ _ nfd (s0 _ _ hfa)), atI_nat ep, fp, _, 0, .int y, rfl, rfl, SqT.of hfp3, PF _ e0, rfl, _, rfl, iteT ?_⟩
          refine ⟨_, rfl, hp, _, 0, .ref fa, rfl, rfl, SqT.of (TB _ _ hhp), a0, _, rfl, hp3, _, 0, .int hh.k, rfl, rfl, SqT.of hhp4, a0, fa, _, _, .ref fp, rfl, rfl, SqL.of (B _ _ nfd (s0 _ _ hfa)), atI_nat ep, fp, _, 0, .int y, rfl, rfl, SqT.of hfp3, PF _ e0, _, _, rfl, rfl, _, _, rfl, rfl, cs, _, rfl, rfl, ?_⟩
          rw [Int.one_mul]
          exact up st.2 (by decide)
      obtain ⟨r, rfl, rfl, hr⟩ := hM
      refine ⟨_, rfl, .inl ⟨rfl, _, SqL.of hd⟩, _, rfl, _, _, rfl, rfl, _, rfl, _, _, rfl, rfl, (by show 2 ≤ sizeLine; decide), fun t ht => ?_⟩
      generalize hGt : upd _ t _ = G4
      obtain ⟨s4, h_t⟩ := upd_gen hGt ht
      refine ⟨dl, _, _, rfl, rfl, s4 _ _ hd, sl_lt (by omega), _, _, held ++ [(0 - r, r - 1)], _, rfl, (B.trans (.of s4)).trans SameBut.upd, upd_same, ?_, by rw [List.length_append, lh]; rfl, fun s hs => ?_⟩
      · rw [List.map_append]
        exact TsAt.push (s4 _ _ hd) (tl.same s4) h_t
      · rcases List.mem_append.mp hs with hs | hs
        · exact bd s hs
        · rw [List.mem_singleton.mp hs]
          have : (2 : Nat) ^ 100 * 2 ≤ 2 ^ 110 := by decide
          exact ⟨by show (0 - r).natAbs < 2 ^ 110; omega, by show (r - 1).natAbs < 2 ^ 110; omega⟩
    · obtain ⟨y2, y3, held, lv, rfl, B, hd, tl, lh, bd⟩ := hP
      exact ⟨_, rfl, q dl lv held G hdl (same_but s0 B hdl) hd tl (by omega) bd⟩
theorem ok_widenedN {f : Addr} {fd : FuncData} {C CN CM fI : Addr} (T : FTxt K mg C) (EC : PySem.ErrX.ErrC K mg "TooMany" CM) (IO : PySem.ErrX.IniOk P w K mg CM fI "many") (TN : NTxt K mg CN) (F : Fun K "widened" "widened" s_widened f fd) (z : Zs mg) (n_forms : CalM P w K mg base 1 CN "forms" ["self"] (spFormsM C CN)) (n_holds : CalM P w K mg base 1 CN "holds" ["self"] (spHoldsM C CN)) (c_has_in_it : Cal P w K mg base 1 "has_in_it" ["stretch", "other"] spHasIn) (c_hull : Cal P w K mg base 1 "hull" ["one", "other"] spHull) (c_all_words : Cal P w K mg base 2 "all_words" ["form"] (spAllW C)) : FnOk P w K mg base (L2N.CX P w) 3 f fd ["net", "held", "stretches", "rounds", "many"] (spWidened C CN CM) := by
  refine okC F sc_widened (fun vs H Q E h => ?_) (fun cdv A outer s H vs Q E hr h => ?_)
  · obtain ⟨p, ha, sa, n, held, sp, hv, sv, r, many, rfl, _⟩ := h
    rfl
  · obtain ⟨p, ha, sa, n, held, sp, hv, sv, r, many, rfl, hn, hha, th, hls, hsa, ts, hsl, m40, qg, qb⟩ := h
    refine ⟨_, (pss_cons (ps_set (i := 5) sc_widened.nd rfl (.inl rfl) (pe_calm0 (pv 0) TN.cl n_forms hr))
      (pss_cons (ps_set (i := 6) sc_widened.nd rfl (.inl rfl) (pe_lst pa_nil))
      (pss_cons (ps_for (passes_of rfl) rfl (RZ.pi_zipA (by rfl) z.zip (pa_cons (pe_calm0 (pv 0) TN.cl n_holds hr) (pa_cons (pv 1) pa_nil))) (pg_tup (by rfl) (pgs_cons (pg_name (i := 7) sc_widened.nd rfl (.inl rfl)) (pgs_cons (pg_name (i := 8) sc_widened.nd rfl (.inl rfl)) pgs_nil))) (pss_cons (ps_set (i := 9) sc_widened.nd rfl (.inl rfl) (pe_ix ix_list (pv 5) (pe_ix ix_tup (pv 7) pe_int (fun _ _ => rfl)) (fun _ _ => rfl)))
      (pss_one (ps_if (pt_val (pe_cal c_has_in_it hr (pa_cons (pv 8) (pa_cons (pe_ix ix_list (pv 2) (pe_ix ix_tup (pv 7) pe_int (fun _ _ => rfl)) (fun _ _ => rfl)) pa_nil)))) (pss_one (ps_expr (pe_bm PySem.F.plainAttrs_list PySem.F.slot_list_append PySem.F.type_list_append mt_append (pv 6) (pa_cons (pv 8) pa_nil)))) (pss_one (ps_if (pt_cmpR op_lt (pv 3) (pv 4) (nomark _)) (pss_one (ps_expr (pe_bm PySem.F.plainAttrs_list PySem.F.slot_list_append PySem.F.type_list_append mt_append (pv 6) (pa_cons (pe_cal c_hull hr (pa_cons (pv 8) (pa_cons (pe_ix ix_list (pv 2) (pe_ix ix_tup (pv 7) pe_int (fun _ _ => rfl)) (fun _ _ => rfl)) pa_nil))) pa_nil)))) (pss_one (ps_if (pt_cmpR op_isN (pe_fld (pv 9) rfl) pe_non (nomark _)) (pss_one (ps_raiseErrN rfl EC IO hr (L2N.takes_of rfl rfl rfl rfl) (by exact (pa_cons (pv 4) pa_nil)))) (pss_one (ps_expr (pe_bm PySem.F.plainAttrs_list PySem.F.slot_list_append PySem.F.type_list_append mt_append (pv 6) (pa_cons (pe_cal c_all_words hr (pa_cons (pv 9) pa_nil)) pa_nil))))))))))))
      (pss_one (ps_ret (pv 6)))))), ?_⟩
    obtain ⟨ok, dx, fl, rl, hl, pl, fv, rv, hv0, b⟩ := id hn
    refine ⟨_, rfl, p, dx, _, rfl, b.ob, nl_no (by decide +kernel), p, n, rfl, hn, fun fl2 fv2 H1 hf1 s1 h_fl2 hff => ?_⟩
    refine ⟨(by show 0 ≤ sizeLine; decide), fun tl htl => ?_⟩
    generalize hG : upd _ tl _ = H2
    obtain ⟨s2, h_tl⟩ := upd_gen hG htl
    have S2 := s1.trans s2
    have ht0 : H tl = none := s1.free htl
    refine ⟨_, rfl, p, dx, _, rfl, S2 _ _ b.ob, nl_no (by decide +kernel), p, n, rfl, hn.same S2, fun hl2 hv2 H3 hh3 s3 h_hl2 hhh => ?_⟩
    have S3 := S2.trans s3
    have nfl : fl2 ≠ tl := ne_of_none h_fl2 htl
    have nhl : hl2 ≠ tl := (ne_of_none h_tl hh3).symm
    have nsa : sa ≠ tl := ne_of_none hsa ht0
    have nha : ha ≠ tl := ne_of_none hha ht0
    replace h_tl := s3 _ _ h_tl
    replace h_fl2 := s3 _ _ (s2 _ _ h_fl2)
    replace hff := hff.same (s2.trans s3)
    have gl : (growL n.fs sp (decide (many ≤ r)) n.holds held).length = n.holds.length := growL_len hls
    have h6 := ok.h2
    have lhh := hhh.len
    have lth := th.len
    rw [List.length_map] at lhh lth
    refine ⟨_, rfl, hl2, ha, _, _, rfl, .inl ⟨SqL.of h_hl2, SqL.of (S3 _ _ hha), ?_⟩⟩
    refine for_it (walk_zip (K := K) (a := hl2) (b := ha) (xs := hv2) (ys := hv) rfl) (fun i σ G => ∃ (y7 y8 y9 : Option V) (lv : List V), σ = [some (.ref p), some (.ref ha), some (.ref sa), some (.int (r : Nat)), some (.int (many : Nat)), some (.ref fl2), some (.ref tl), y7, y8, y9] ∧ SameBut tl H3 G ∧ G tl = some (.lst lv) ∧ TsAt G lv ((downL ((growL n.fs sp (decide (many ≤ r)) n.holds held).take i)).map spV) ∧ ¬ none ∈ (growL n.fs sp (decide (many ≤ r)) n.holds held).take i) ⟨none, none, none, [], rfl, SameBut.refl _ _, h_tl, .nil, fun z => nomatch z⟩ (fun i σ G _ hP => ?_) (fun i v3 σ G0 G' hi hP hY => ?_) (fun σ G hP => ?_)
    · obtain ⟨y7, y8, y9, lv, rfl, B, _⟩ := hP
      exact ⟨SqL.of (B _ _ nhl h_hl2), SqL.of (B _ _ nha (S3 _ _ hha))⟩
    · obtain ⟨y7, y8, y9, lv, rfl, B, hd, tlv, nn⟩ := hP
      obtain ⟨Tp, u, v, rfl, nT, rfl, e1, e2⟩ := hY
      replace e1 : hv2[i]? = some u := e1
      replace e2 : hv[i]? = some v := e2
      obtain ⟨hp, xs, rfl, ex, hhp⟩ := hhh.get e1
      obtain ⟨op, ys, rfl, ey, hop⟩ := th.get e2
      rw [List.getElem?_map] at ex ey
      obtain ⟨hh, eh, rfl⟩ := Option.map_eq_some_iff.mp ex
      obtain ⟨og, eo, rfl⟩ := Option.map_eq_some_iff.mp ey
      have il := (List.getElem?_eq_some_iff.mp eh).1
      obtain ⟨kl, _, xb, exb⟩ := ok.ho hh (List.mem_of_getElem? eh)
      have ll : hh.l < sp.length := by
        have := (List.getElem?_eq_some_iff.mp exb).1
        omega
      have sN := same_new (o := .tup [.ref hp, .ref op]) nT
      have B2 : SameBut tl H3 (upd G0 Tp (.tup [.ref hp, .ref op])) := B.trans (.of sN)
      have hT : (upd G0 Tp (.tup [.ref hp, .ref op])) Tp = some (.tup [.ref hp, .ref op]) := upd_same
      replace hd := sN _ _ hd
      replace tlv := tlv.same sN
      generalize upd G0 Tp (.tup [.ref hp, .ref op]) = G2 at B2 hT hd tlv ⊢
      clear B sN
      have hhp2 := B2 _ _ (ne_of hhp h_tl (fun z => nomatch z)) hhp
      have hop2 := B2 _ _ (ne_of (S3 _ _ hop) h_tl (fun z => nomatch z)) (S3 _ _ hop)
      have hff2 := hff.butL B2 h_tl
      obtain ⟨q1, eq1, f1⟩ := hff2.frm kl
      obtain ⟨qs, es, hqs⟩ := spans_at ts ll
      have hqs2 := B2 _ _ (ne_of (S3 _ _ hqs) h_tl (fun z => nomatch z)) (S3 _ _ hqs)
      have hsa2 := B2 _ _ nsa (S3 _ _ hsa)
      have hfl2 := B2 _ _ nfl h_fl2
      have SH : Same H G2 := same_but S3 B2 ht0
      have lvl := tlv.len
      have lt6 : ((growL n.fs sp (decide (many ≤ r)) n.holds held).take i).length = i := by
        rw [List.length_take]
        omega
      rw [List.length_map] at lvl
      unfold downL at lvl
      rw [List.length_map, lt6] at lvl
      have small : lv.length < sizeLine := sl_lt (by omega)
      have ga := growL_at (fs := n.fs) (sp := sp) (late := decide (many ≤ r)) eh eo
      have fin : ∀ (t : Addr) (G3 : Hp) (s : Sp2), Same G2 G3 → G3 t = some (.tup (spV s)) → (growL n.fs sp (decide (many ≤ r)) n.holds held)[i]? = some (some s) → ∃ (y7 y8 y9 : Option V) (lv' : List V), [some (V.ref p), some (.ref ha), some (.ref sa), some (.int (r : Nat)), some (.int (many : Nat)), some (.ref fl2), some (.ref tl), some (.ref hp), some (.ref op), some (.ref q1)] = [some (.ref p), some (.ref ha), some (.ref sa), some (.int (r : Nat)), some (.int (many : Nat)), some (.ref fl2), some (.ref tl), y7, y8, y9] ∧ SameBut tl H3 (upd G3 tl (.lst (lv ++ [.ref t]))) ∧ (upd G3 tl (.lst (lv ++ [.ref t]))) tl = some (.lst lv') ∧ TsAt (upd G3 tl (.lst (lv ++ [.ref t]))) lv' ((downL ((growL n.fs sp (decide (many ≤ r)) n.holds held).take (i + 1))).map spV) ∧ ¬ none ∈ (growL n.fs sp (decide (many ≤ r)) n.holds held).take (i + 1) := fun t G3 s sg h_t eg => by
        refine ⟨_, _, _, _, rfl, (B2.trans (.of sg)).trans SameBut.upd, upd_same, ?_, ?_⟩
        · rw [List.take_add_one, eg]
          unfold downL
          rw [List.map_append, List.map_append]
          exact TsAt.push (sg _ _ hd) (tlv.same sg) h_t
        · rw [List.take_add_one, eg]
          intro z
          rcases List.mem_append.mp z with z | z
          · exact nn z
          · exact nomatch List.mem_singleton.mp z
      refine ⟨Tp, [.ref hp, .ref op], rfl, SqT.of hT, rfl, _, _, rfl, _, _, rfl, rfl, ?_⟩
      refine ⟨_, rfl, _, rfl, hp, _, 0, .int hh.k, rfl, rfl, SqT.of hhp2, a0, fl2, _, _, .ref q1, rfl, rfl, SqL.of hfl2, atI_nat eq1, ?_⟩
      refine ⟨_, rfl, _, rfl, _, rfl, hp, _, 2, .int hh.l, rfl, rfl, SqT.of hhp2, a2, sa, _, _, .ref qs, rfl, rfl, SqL.of hsa2, atI_nat es, op, qs, og, sp.getD hh.l (0, 0), rfl, hop2, hqs2, _, rfl, ?_⟩
      by_cases c : hasIn og (sp.getD hh.l (0, 0)) = true
      · refine iteC (d := true) c (iteT ?_)
        refine ⟨_, rfl, .inl ⟨rfl, _, SqL.of hd⟩, _, rfl, tl, _, _, rfl, rfl, hd, small, fin op G2 og (Same.refl _) hop2 ?_⟩
        rw [ga]
        exact congrArg some (if_pos c)
      · refine iteC (d := false) (Bool.eq_false_iff.mpr c) (iteF ?_)
        refine ⟨_, rfl, _, rfl, _, _, rfl, rfl, _, rfl, ite2 (fun c2 => ?_) (fun c2 => ?_)⟩
        · have lt : (r : Int) < (many : Int) := toB c2
          have late : decide (many ≤ r) = false := decide_eq_false (by omega)
          refine ⟨_, rfl, .inl ⟨rfl, _, SqL.of hd⟩, _, rfl, _, rfl, _, rfl, hp, _, 2, .int hh.l, rfl, rfl, SqT.of hhp2, a2, sa, _, _, .ref qs, rfl, rfl, SqL.of hsa2, atI_nat es, op, qs, og, sp.getD hh.l (0, 0), rfl, hop2, hqs2, fun t G3 sg h_t => ?_⟩
          refine ⟨tl, _, _, rfl, rfl, sg _ _ hd, small, fin t G3 _ sg h_t ?_⟩
          rw [ga]
          unfold growOne
          rw [if_neg c, if_pos late]
        · have lt : ¬ (r : Int) < (many : Int) := toNB c2
          have late : ¬ decide (many ≤ r) = false := by
            rw [decide_eq_true (show many ≤ r by omega)]
            decide
          obtain ⟨dxq, hoq⟩ := f1.ob
          refine ⟨_, rfl, q1, C, dxq, _, _, rfl, hoq, T.cl, T.nW, fl_w, rfl, _, rfl, ?_⟩
          cases ew : (frm n.fs hh.k).w with
          | none =>
            refine iteT ⟨_, rfl, _, rfl, VFmt.nat (by omega), fun d hd2 => qb ?_ G2 d SH hd2⟩
            refine List.mem_of_getElem? (i := i) ?_
            rw [ga]
            unfold growOne
            rw [if_neg c, if_neg late, ew]
          | some y =>
            refine iteF ⟨_, rfl, .inl ⟨rfl, _, SqL.of hd⟩, _, rfl, q1, frm n.fs hh.k, y, rfl, f1, ew, fun t G3 sg h_t => ?_⟩
            refine ⟨tl, _, _, rfl, rfl, sg _ _ hd, small, fin t G3 _ sg h_t ?_⟩
            rw [ga]
            unfold growOne
            rw [if_neg c, if_neg late, ew]
    · obtain ⟨y7, y8, y9, lv, rfl, B, hd, tlv, nn⟩ := hP
      have em : min hv2.length hv.length = (growL n.fs sp (decide (many ≤ r)) n.holds held).length := by omega
      rw [em, List.take_length] at tlv nn
      exact ⟨_, rfl, qg nn tl lv G ht0 (same_but S3 B ht0) hd tlv⟩
theorem ok_boxN {f : Addr} {fd : FuncData} {C CN CM fR : Addr} {tkR : Tok} (g_MOST_ROUNDS : mg "MOST_ROUNDS" = some (.int 40 tkR)) (gR : mg "stretch_of_row" = some (.ref fR)) (TN : NTxt K mg CN) {dvs : List V} (F : FunD K "box" "box" (defArgs s_box) (defBody s_box) (defScope s_box) dvs [] f fd) (z : Zs mg) (n_start : CalM P w K mg base 1 CN "start" ["self"] (spStartM C CN)) (c_check_ends : Cal P w K mg base 3 "check_ends" ["net", "low", "high"] (spCkEnds C CN)) (c_is_whole : Cal P w K mg base 1 "is_whole" ["thing"] (spWhole K)) (c_swept : Cal P w K mg base 9 "swept" ["net", "heard", "held", "rule"] (spSweptS C CN fR)) (c_widened : CalN P w K mg base 3 "widened" ["net", "held", "stretches", "rounds", "many"] [] (spWidened C CN CM)) : FnOk P w K mg base (L2N.CX P w) 10 f fd ["net", "low", "high", "many"] (spBox C CN CM) := by
  refine F.ok sc_box (fun vs H Q E h => ?_) (fun cdv A outer s H vs Q E hr h => ?_)
  · obtain ⟨p, n, lo, hi, many, R, rfl, _⟩ := h
    rfl
  · obtain ⟨p, n, lo, hi, many, R, rfl, hn, l26, i1, i2, le, z1, z2, m1, m40, zst, hb, q⟩ := h
    refine ⟨_, (pss_cons (ps_expr (pe_cal c_check_ends hr (pa_cons (pv 0) (pa_cons (pv 1) (pa_cons (pv 2) pa_nil)))))
      (pss_cons (ps_if (PW.pt (pw_or (pt_not (pt_val (pe_cal c_is_whole hr (pa_cons (pv 3) pa_nil)))) (pw_or1 (pt_not (pt_chain op_le op_le pe_int (pv 3) (pe_glob (v := .int 40) (by rfl) g_MOST_ROUNDS ⟨_, rfl⟩)))))) (pss_one ps_never) pss_nil)
      (pss_cons (ps_setLc (i := 4) (own := [("word", 8)]) (g := gName 8) (tt := tYes) (te := (tTup (tCons (tVar 8) (tCons (tVar 8) tNil)))) (by rfl) sc_box.nd rfl rfl (sw_true rfl rfl rfl (by decide +kernel)) (pi_tup (pe_calm0 (pv 0) TN.cl n_start hr)) (blkOk_by (own := [("word", 8)]) (N := ["net", "low", "high", "many", "held", "rounds", "stretches", "wider", "word"]) (sc := defScope s_box) (by decide +kernel)) (fun _ _ _ _ _ => by exact (pg_name (i := 8) sc_box.nd rfl (.inl rfl))) (fun _ _ _ _ _ => by exact pts_nil) (fun _ _ _ _ _ => by exact (pe_tup (pa_cons (pv 8) (pa_cons (pv 8) pa_nil)))))
      (pss_cons (ps_set (i := 5) sc_box.nd rfl (.inl rfl) pe_int)
      (pss_one (ps_while (passes_of rfl) (pt_val pe_bl) (pss_cons (ps_set (i := 6) sc_box.nd rfl (.inl rfl) (pe_cal c_swept hr (pa_cons (pv 0) (pa_cons (pe_tup (pa_cons (pv 1) (pa_cons (pv 2) pa_nil))) (pa_cons (pv 4) (pa_cons (pe_glob (v := .ref fR) (by rfl) gR rfl) pa_nil))))))
      (pss_cons (ps_set (i := 7) sc_box.nd rfl (.inl rfl) (pe_calN c_widened hr (L2N.takes_of rfl rfl rfl rfl) (pa_cons (pv 0) (pa_cons (pv 4) (pa_cons (pv 6) (pa_cons (pv 5) (pa_cons (pv 3) pa_nil)))))))
      (pss_cons (ps_if (pt_cmpR (op_eqD hr.units) (pv 7) (pv 4) (nomark _)) (pss_one (ps_ret (pe_tup (pa_cons pe_str (pa_cons (pv 4) (pa_cons (pv 6) (pa_cons (pv 5) pa_nil))))))) pss_nil)
      (pss_cons (ps_set (i := 4) sc_box.nd rfl (.inl rfl) (pv 7))
      (pss_one (ps_aug (i := 5) sc_box.nd rfl (.inl rfl) pe_int ip_add)))))))))))), ?_⟩
    refine ⟨_, rfl, _, rfl, _, rfl, p, n, lo, hi, rfl, hn, i1, i2, le, fun H1 s1 => ?_⟩
    refine ⟨_, rfl, _, true, rfl, .int _, _, rfl, iteF ?_⟩
    refine ⟨_, rfl, _, _, rfl, rfl, _, rfl, iteC (d := true) (decide_eq_true (by omega)) (iteT ⟨_, _, rfl, rfl, _, rfl, iteC (d := false) (by rw [decide_eq_true (show (many : Int) ≤ 40 by omega)]; rfl) (iteF ?_)⟩)⟩
    have hn1 := hn.same s1
    obtain ⟨ok, dx, _, _, _, _, _, _, _, b⟩ := id hn1
    refine ⟨_, rfl, p, dx, _, rfl, b.ob, nl_no (by decide +kernel), p, n, rfl, hn1, fun t0 H2 t00 s2 h_t0 => ⟨t0, rfl, ⟨_, SqT.of h_t0⟩, fun D hD => ?_⟩⟩
    have h6 := ok.h2
    have ls : (starts n).length = n.holds.length := List.length_map ..
    refine lc_tup (K := K) (a := t0) (xs := (starts n).map V.int) (fun i G => Same H2 G ∧ ∃ vs, G D = some (.lst vs) ∧ TsAt G vs (((st2 n).take i).map spV)) ⟨same_new hD, [], upd_same, .nil⟩ (fun i G _ hP => SqT.of (hP.1 _ _ h_t0)) (fun i v G hi hP => ?_) (fun G3 hP => ?_)
    · obtain ⟨s5, vs, hd, tv⟩ := hP
      rw [List.getElem?_map] at hi
      obtain ⟨k, ek, rfl⟩ := Option.map_eq_some_iff.mp hi
      have il := (List.getElem?_eq_some_iff.mp ek).1
      have lv := tv.len
      rw [List.length_map, List.length_take, st2_len] at lv
      have e2 : (st2 n)[i]? = some (k, k) := by
        unfold st2
        rw [List.getElem?_map, ek]
        rfl
      refine ⟨rfl, _, rfl, _, rfl, (by show 2 ≤ sizeLine; decide), fun p2 hp2 => ?_⟩
      generalize hG5 : upd _ p2 _ = G5
      obtain ⟨s6, h_p2⟩ := upd_gen hG5 hp2
      refine ⟨vs, s6 _ _ hd, sl_lt (by omega), fun b' o' e' => ?_, _, upd_same, ?_⟩
      · rw [upd_ne (ne_of_none e' hD)]
        exact s6 _ _ (s5 _ _ e')
      · rw [List.take_add_one, e2, List.map_append]
        exact TsAt.push (s6 _ _ hd) (tv.same s6) h_p2
    obtain ⟨s5, hv0, h_D, tv0⟩ := hP
    rw [List.length_map, ls, ← st2_len, List.take_length] at tv0
    have S3 : Same H G3 := s1.trans (s2.trans s5)
    have hD0 : H D = none := (s1.trans s2).free hD
    clear s5 s2 h_t0 hD
    dsimp only [gName, tSeq, tAsg, tC]
    refine while_by (fun σ G => ∃ (hl : Addr) (held : List Sp2) (hv : List V) (r : Nat) (y6 y7 : Option V), σ = [some (.ref p), some (.int lo), some (.int hi), some (.int (many : Nat)), some (.ref hl), some (.int (r : Nat)), y6, y7, none] ∧ Same H G ∧ H hl = none ∧ G hl = some (.lst hv) ∧ TsAt G hv (held.map spV) ∧ held.length = n.holds.length ∧ 1 ≤ r ∧ BdS (70 + 15600 * r) held ∧ boxF n (lo, hi) many (many + 9 - r) held r = some R)
      (fun σ _ => match σ with | [_, _, _, _, _, some (.int r), _, _, _] => (100 - r).toNat | _ => 0) ⟨D, st2 n, hv0, 1, none, none, rfl, S3, hD0, h_D, tv0, st2_len n, Nat.le_refl _, (st2_bd zst).mono (by omega), hb⟩ (fun σ G hP => ?_) (fun σ H Q Q' m hh => ?_)
    rotate_left
    · obtain ⟨k, e, hq⟩ := hh
      exact ⟨k, e, m _ _ hq⟩
    obtain ⟨hl, held, hv, r, y6, y7, rfl, S, hl0, h_hl, th, hls, r1, bdh, hbr⟩ := hP
    obtain ⟨f', ef⟩ : ∃ f', many + 9 - r = f' + 1 := by
      cases e : many + 9 - r with
      | zero =>
        rw [e] at hbr
        cases hbr
      | succ f' => exact ⟨f', rfl⟩
    have r49 : r ≤ 48 := by omega
    rw [ef] at hbr
    unfold boxF at hbr
    have hnG := hn.same S
    refine ⟨_, rfl, iteT ?_⟩
    refine ⟨_, rfl, _, rfl, _, rfl, (by show 2 ≤ sizeLine; decide), fun xa hxa => ?_⟩
    generalize hGx : upd _ xa _ = G4
    obtain ⟨s4, h_xa⟩ := upd_gen hGx hxa
    refine ⟨_, rfl, p, xa, hl, n, (lo, hi), held, hv, 70 + 15600 * r, rfl, hnG.same s4, l26, h_xa, s4 _ _ h_hl, th.same s4, hls, by omega, by omega, ⟨up z1 (by omega), up z2 (by omega)⟩, bdh, fun sl sv G5 sl0 s5 h_sl tsl => ?_⟩
    have S45 := s4.trans s5
    have h_hl5 := S45 _ _ h_hl
    have th5 := th.same S45
    refine ⟨_, rfl, _, rfl, _, rfl, _, rfl, _, rfl, p, hl, sl, n, held, n.spans (lo, hi) held, hv, sv, r, many, rfl, hnG.same S45, h_hl5, th5, hls, h_sl, tsl, spans_len n _ _, m40, fun hnn wl wv G6 wl0 s6 h_wl twl => ?_, fun hno => ?_⟩
    · rw [if_neg hnn] at hbr
      have S6 := S.trans (S45.trans s6)
      refine ⟨_, rfl, _, rfl, .list ((downL (growL n.fs (n.spans (lo, hi) held) (decide (many ≤ r)) n.holds held)).map spD), .list (held.map spD), .lst (SqL.of h_wl) (dp_sp twl), .lst (SqL.of (s6 _ _ h_hl5)) (dp_sp (th5.same s6)), sp_shaped _, sp_shaped _, ?_⟩
      rw [eqv_spl]
      by_cases e : downL (growL n.fs (n.spans (lo, hi) held) (decide (many ≤ r)) n.holds held) = held
      · rw [if_pos e] at hbr
        cases hbr
        refine ⟨_, rfl, iteC (d := true) (decide_eq_true e) (iteT ⟨_, rfl, _, rfl, _, rfl, (by show 4 ≤ sizeLine; decide), fun t ht => ?_⟩)⟩
        generalize hGt : upd _ t _ = G7
        obtain ⟨s7, h_t⟩ := upd_gen hGt ht
        have s67 := s6.trans s7
        exact q t hl sl hv sv G7 (S6.trans s7) hl0 ((S.trans s4).free sl0) (ne_of_none (s4 _ _ h_hl) sl0) h_t (s67 _ _ h_hl5) (th5.same s67) (s67 _ _ h_sl) (tsl.same s67)
      · rw [if_neg e] at hbr
        refine ⟨_, rfl, iteC (d := false) (decide_eq_false e) (iteF ⟨_, rfl, _, rfl, _, _, rfl, rfl, ?_, ?_⟩)⟩
        · have er : (r : Int) + 1 = ((r + 1 : Nat) : Int) := by omega
          have ok' := hn.1
          refine ⟨wl, downL (growL n.fs (n.spans (lo, hi) held) (decide (many ≤ r)) n.holds held), wv, r + 1, _, _, by rw [← er]; rfl, S6, (S.trans S45).free wl0, h_wl, twl, down_len hls, by omega, ?_, ?_⟩
          · have bs := spans_all ok' l26 (x := (lo, hi)) (held := held) (k := 70 + 15600 * r) ⟨up z1 (by omega), up z2 (by omega)⟩ bdh (by omega)
            exact (grow_lt ok' (by omega) bs (bdh.mono (by omega)) hls).mono (by omega)
          · rw [show many + 9 - (r + 1) = f' by omega]
            exact hbr
        · show (100 - ((r : Int) + 1)).toNat < (100 - (r : Int)).toNat
          omega
    · rw [if_pos hno] at hbr
      cases hbr
      exact fun H' d s hd => q H' d (S.trans (S45.trans s)) hd
theorem sc__law_start_box : FnScope ["_law_house", "_law_parts", "_law_lowest", "_law_highest", "_law_found"] ["_law_house", "_law_parts", "_law_lowest", "_law_highest"] (defScope s__law_start_box) := ⟨rfl, rfl, rfl, by decide +kernel, rfl, by decide +kernel, by decide +kernel⟩
theorem ok__law_start_box {f : Addr} {fd : FuncData} {C CN CM : Addr} (gM : mg "TooMany" = some (.ref CM)) (xM : PySem.W.exmOne K (.ref CM) (.ref CM) = some true) (F : Fun K "_law_start_box" "_law_start_box" s__law_start_box f fd) (z : Zs mg) (c__law_all : Cal P w K mg base 1 "_law_all" ["_law_parts"] spLAll) (c_box : CalN P w K mg base 10 "box" ["net", "low", "high", "many"] [.int 20] (spBox C CN CM)) (cH__law_all : CalH P w K mg base 1 "_law_all" ["_law_parts"] spLAll) : FnOk P w K mg base CX0 11 f fd ["_law_house", "_law_parts", "_law_lowest", "_law_highest"] (spLStart C CN) := by
  refine F.ok sc__law_start_box (fun vs H Q E h => ?_) (fun cdv A outer s H vs Q E hr h => ?_)
  · obtain ⟨p, hp, n, lo, hi, rfl, _⟩ := h
    rfl
  · obtain ⟨p, hp, n, lo, hi, rfl, hn, hpp, l26, i1, i2, le, z1, z2, zst, q⟩ := h
    refine ⟨_, (pss_cons (ps_set (i := 4) sc__law_start_box.nd rfl (.inl rfl) (pe_cal c__law_all hr (pa_cons (pv 1) pa_nil)))
      (pss_cons (L2H.ps_try_onlyX (c := .ref CM) (tb := fun W => tAsg (tOp (rIxT K) (tCallSD (spBox C CN CM) [.int 20] (WE W) (tCons (tVar 0) (tCons (tVar 2) (tCons (tVar 3) tNil)))) (tC (.int 1))) (gName 4)) (ts := fun _ _ _ => tAsg (tCallS spLAll (fun _ => E0) (tCons (tVar 1) tNil)) (gName 4)) rfl rfl ⟨rfl, by decide, .inl gM⟩ (fun _ => PassesOwnAt.never) takes0 (fun W pn xe tk _ _ => pss_one (ps_set (i := 4) sc__law_start_box.nd rfl (.inl rfl) (pe_ix ix_tup (pe_calN c_box hr tk (pa_cons (pv 0) (pa_cons (pv 2) (pa_cons (pv 3) pa_nil)))) pe_int (fun _ _ => rfl)))) (fun a oe cls d pn hz hf _ hot => pss_one (ps_set (i := 4) sc__law_start_box.nd rfl (.inl rfl) (pe_calH cH__law_all (j := 10) ⟨hr.dp, hr.un⟩ hot (pa_cons (pv 1) pa_nil)))))
      (pss_one (ps_ret (pv 4))))), ?_⟩
    have nok := hn.1
    refine ⟨_, rfl, hp, n, rfl, hpp, nok, fun l0 lv0 held0 H1 l00 s1 _ _ _ _ => ?_⟩
    obtain ⟨R, hR⟩ := Option.ne_none_iff_exists'.mp (box_ends nok (lo, hi) (many := 20) 20 28 1 (st2 n) (by decide) (st2_len n) (by decide))
    refine ⟨_, rfl, _, rfl, _, rfl, p, n, lo, hi, 20, R, rfl, hn.same s1, l26, i1, i2, le, z1, z2, by decide, by decide, zst, hR, ?_⟩
    cases R with
    | box held sp r =>
      refine fun t l1 l2 v1 v2 H' s l10 _ _ h_t h_1 t1 h_2 t2 => ⟨t, _, 1, .ref l1, rfl, rfl, SqT.of h_t, a1, _, rfl, ?_⟩
      have bdh := box_bd nok l26 (x := (lo, hi)) ⟨z1, z2⟩ 28 1 (st2 n) 70 (by decide) (st2_bd zst) (st2_len n) hR
      exact q l1 v1 held H' (s1.free l10) (s1.trans s) h_1 t1 (box_len 28 1 _ (st2_len n) hR) (bdh.mono (by decide))
    | no =>
      refine fun H' d s hd => ⟨true, xM, fun _ a ha => ?_, fun z => nomatch z⟩
      have S := s1.trans (s.trans (same_new (o := .xd [("many", V.int ((20 : Nat) : Int))]) hd))
      exact ⟨_, rfl, hp, n, rfl, hpp.same S, nok, fun l lv held H2 l0 s2 h_l tl hlen bd => ⟨_, rfl, q l lv held H2 (S.free l0) (S.trans s2) h_l tl hlen (bd.mono (by decide))⟩⟩
end
end E1

namespace E1
open PySem PySem.Spec PyProof.Rows L2

theorem atI_memV {ws : List V} {r : Int} (h0 : 0 ≤ r) (h1 : r < ws.length) : ∃ v ∈ ws, atI ws r = some v := by
  obtain ⟨n, rfl⟩ : ∃ n : Nat, r = n := ⟨r.toNat, by omega⟩
  have hl : n < ws.length := by omega
  exact ⟨ws[n], List.getElem_mem hl, atI_nat (List.getElem?_eq_getElem hl)⟩
theorem zero_in {w : Option Int} (h : WOk w) : inR w 0 = true ∧ inR w 1 = true := by
  cases w with
  | none => exact ⟨rfl, rfl⟩
  | some y =>
    obtain ⟨y0, _⟩ := h y rfl
    obtain ⟨h1, h2⟩ := lst_le_grt y y0
    rw [inR_iff, inR_iff, decide_eq_true h1, decide_eq_true (show lst y ≤ 1 by omega), decide_eq_true h2, decide_eq_true (show (0 : Int) ≤ grt y by omega)]
    exact ⟨rfl, rfl⟩
def B3At (w : Option Int) (G : Hp) (v : V) : Prop := ∃ t x y m, v = .ref t ∧ G t = some (.tup [x, y, m]) ∧ BadThree w x y m
theorem B3At.same {w : Option Int} {G G' : Hp} {v : V} (h : B3At w G v) (s : Same G G') : B3At w G' v := by
  obtain ⟨t, x, y, m, e, h1, h2⟩ := h
  exact ⟨t, x, y, m, e, s _ _ h1, h2⟩
theorem fourS {q r : Int} (hq : -20 ≤ q ∧ q ≤ 20) (h0 : 0 ≤ r) (h1 : r < 4) : ∃ z : Int, atI [V.int 1, V.int (-1), V.int q, V.int (1 * 2 ^ (62 : Int).toNat)] r = some (.int z) ∧ z.natAbs < 2 ^ 63 := by
  rcases (by omega : r = 0 ∨ r = 1 ∨ r = 2 ∨ r = 3) with rfl | rfl | rfl | rfl
  · exact ⟨_, rfl, by decide⟩
  · exact ⟨_, rfl, by decide⟩
  · exact ⟨q, rfl, by omega⟩
  · exact ⟨_, rfl, by decide +kernel⟩
/-- a thing and how far it goes -/
def ItemB (k : Nat) (G : Hp) (v : V) : Prop := ∃ o, ThAt G v o ∧ OneB k o
theorem ItemB.but {k : Nat} {a : Addr} {G G' : Hp} {v : V} {ys zs : List V} (h : ItemB k G v) (s : SameBut a G G') (ha : G a = some (.lst ys)) (hg : G' a = some (.lst zs)) : ItemB k G' v := by
  obtain ⟨o, t, b⟩ := h
  refine ⟨o, t.map (fun q xs e => ?_) (fun p xs e => s _ _ (ne_of e ha (fun z => nomatch z)) e), b⟩
  by_cases c : q = a
  · exact ⟨zs, by rw [c]; exact hg⟩
  · exact ⟨xs, s _ _ c e⟩
theorem ItemB.same {k : Nat} {G G' : Hp} {v : V} (h : ItemB k G v) (s : Same G G') : ItemB k G' v := by
  obtain ⟨o, t, b⟩ := h
  exact ⟨o, t.map (fun q xs e => ⟨xs, s _ _ e⟩) (fun p xs e => s _ _ e), b⟩
theorem zeroB {k : Nat} (h : 110 ≤ k) : OneB k none := ⟨Nat.lt_of_lt_of_le (by decide : (0 : Int).natAbs < 2 ^ 0) (Nat.pow_le_pow_right (by decide) (Nat.zero_le _)), Nat.lt_of_lt_of_le (by decide : (0 : Int).natAbs < 2 ^ 0) (Nat.pow_le_pow_right (by decide) (Nat.zero_le _))⟩
theorem put_ot {H : Hp} {vs : List V} {l : List Sp2} {i : Nat} {v : V} {k : Nat} (t : TsAt H vs (l.map spV)) (bd : BdS k l) (hi : ItemB k H v) : ∃ os, OtAt H (vs.take i ++ [v] ++ vs.drop (i + 1)) os ∧ os.length ≤ l.length + 1 ∧ BdO k os := by
  obtain ⟨o, th, ob⟩ := hi
  have t1 := t.take i
  have t2 := t.drop (i + 1)
  rw [← List.map_take] at t1
  rw [← List.map_drop] at t2
  refine ⟨(l.take i).map some ++ [o] ++ (l.drop (i + 1)).map some, ((TsAt.ot t1).app (.one th)).app (TsAt.ot t2), ?_, ((BdO.of (bd.sub fun x hx => List.mem_of_mem_take hx)).app (.one ob)).app (.of (bd.sub fun x hx => List.mem_of_mem_drop hx))⟩
  simp only [List.length_append, List.length_map, List.length_take, List.length_drop, List.length_cons, List.length_nil]
  omega
section
variable {P : Program} {w : World} {K : PySem.W.Frag} {mg : Str → Option Value} {base : Heap}
theorem sc__law_bad_words : FnScope ["_law_well_here", "_law_form_here", "_law_some", "_law_room"] ["_law_well_here", "_law_form_here"] (defScope s__law_bad_words) := ⟨rfl, rfl, rfl, by decide +kernel, rfl, by decide +kernel, by decide +kernel⟩
theorem ok__law_bad_words {f : Addr} {fd : FuncData} (F : Fun K "_law_bad_words" "_law_bad_words" s__law_bad_words f fd) (z : Zs mg) (c__law_draw : Cal P w K mg base 1 "_law_draw" ["_law_well_here", "_law_many"] spDraw) : FnOk P w K mg base CX0 2 f fd ["_law_well_here", "_law_form_here"] spLBadW := by
  refine F.ok sc__law_bad_words (fun vs H Q E h => ?_) (fun cdv A outer s H vs Q E hr h => ?_)
  · obtain ⟨a, p, f, c, rfl, _⟩ := h
    rfl
  · obtain ⟨a, p, ff, c, rfl, hp, fo, hw, c0, c1, q⟩ := h
    refine ⟨_, (pss_cons (ps_set (i := 2) sc__law_bad_words.nd rfl (.inl rfl) (pe_lst (pa_cons (pe_tup (pa_cons pe_int (pa_cons pe_int (pa_cons pe_int pa_nil)))) (pa_cons (pe_tup (pa_cons pe_non (pa_cons pe_int (pa_cons pe_int pa_nil)))) (pa_cons (pe_tup (pa_cons pe_int (pa_cons pe_bl (pa_cons pe_int pa_nil)))) (pa_cons (pe_tup (pa_cons pe_str (pa_cons pe_int (pa_cons pe_int pa_nil)))) (pa_cons (pe_tup (pa_cons pe_int (pa_cons pe_int (pa_cons pe_int pa_nil)))) (pa_cons (pe_tup (pa_cons pe_int (pa_cons pe_int (pa_cons pe_int pa_nil)))) (pa_cons (pe_tup (pa_cons pe_int (pa_cons pe_int (pa_cons pe_non pa_nil)))) (pa_cons (pe_tup (pa_cons pe_int (pa_cons pe_int (pa_cons pe_bl pa_nil)))) pa_nil))))))))))
      (C8.pss_cut (ps_if (pt_cmpR op_notN (pe_ix ix_tup (pv 1) pe_int (fun _ _ => rfl)) pe_non (nomark _)) (pss_cons (ps_set (i := 3) sc__law_bad_words.nd rfl (.inl rfl) (pe_op op_shlW pe_int (pe_op op_sub (pe_ix ix_tup (pv 1) pe_int (fun _ _ => rfl)) pe_int)))
      (pss_one (ps_set (i := 2) sc__law_bad_words.nd rfl (.inl rfl) (pe_op op_cat (pv 2) (pe_lst (pa_cons (pe_tup (pa_cons pe_int (pa_cons (pv 3) (pa_cons pe_int pa_nil)))) (pa_cons (pe_tup (pa_cons (pe_op op_sub (pe_op op_sub pe_int (pv 3)) pe_int) (pa_cons pe_int (pa_cons pe_int pa_nil)))) (pa_cons (pe_tup (pa_cons (pe_op op_sub (pv 3) pe_int) (pa_cons (pe_op op_sub pe_int (pv 3)) (pa_cons pe_int pa_nil)))) (pa_cons (pe_tup (pa_cons pe_int (pa_cons pe_int (pa_cons (pe_un un_neg pe_int) pa_nil)))) pa_nil))))))))) pss_nil)
      (pss_one (ps_ret (pe_ix ix_list (pv 2) (pe_cal c__law_draw hr (pa_cons (pv 0) (pa_cons (pe_callB call_len_seq (by rfl) z.len PySem.boot_len (pa_cons (pv 2) pa_nil)) pa_nil))) (fun _ _ => rfl)))))), ?_⟩
    obtain ⟨w, pt, m, sto⟩ := ff
    have wo := fo.wo
    obtain ⟨z0, z1⟩ := zero_in wo
    refine ⟨(by show 3 ≤ sizeLine; decide), fun t1 ht1 => ?_⟩
    generalize hG1 : upd _ t1 _ = G1
    obtain ⟨s1, h_t1⟩ := upd_gen hG1 ht1
    refine ⟨(by show 3 ≤ sizeLine; decide), fun t2 ht2 => ?_⟩
    generalize hG2 : upd _ t2 _ = G2
    obtain ⟨s2, h_t2⟩ := upd_gen hG2 ht2
    refine ⟨(by show 3 ≤ sizeLine; decide), fun t3 ht3 => ?_⟩
    generalize hG3 : upd _ t3 _ = G3
    obtain ⟨s3, h_t3⟩ := upd_gen hG3 ht3
    refine ⟨(by show 3 ≤ sizeLine; decide), fun t4 ht4 => ?_⟩
    generalize hG4 : upd _ t4 _ = G4
    obtain ⟨s4, h_t4⟩ := upd_gen hG4 ht4
    refine ⟨(by show 3 ≤ sizeLine; decide), fun t5 ht5 => ?_⟩
    generalize hG5 : upd _ t5 _ = G5
    obtain ⟨s5, h_t5⟩ := upd_gen hG5 ht5
    refine ⟨(by show 3 ≤ sizeLine; decide), fun t6 ht6 => ?_⟩
    generalize hG6 : upd _ t6 _ = G6
    obtain ⟨s6, h_t6⟩ := upd_gen hG6 ht6
    refine ⟨(by show 3 ≤ sizeLine; decide), fun t7 ht7 => ?_⟩
    generalize hG7 : upd _ t7 _ = G7
    obtain ⟨s7, h_t7⟩ := upd_gen hG7 ht7
    refine ⟨(by show 3 ≤ sizeLine; decide), fun t8 ht8 => ?_⟩
    generalize hG8 : upd _ t8 _ = G8
    obtain ⟨s8, h_t8⟩ := upd_gen hG8 ht8
    refine ⟨(by show 8 ≤ sizeLine; decide), fun L9 hL9 => ?_⟩
    generalize hG9 : upd _ L9 _ = G9
    obtain ⟨s9, h_L9⟩ := upd_gen hG9 hL9
    have S9 := ((((((((s1.trans s2).trans s3).trans s4).trans s5).trans s6).trans s7).trans s8).trans s9)
    have w9 := hw.same S9
    have nL : L9 ≠ a := (hw.same (Same.trans s1 (Same.trans s2 (Same.trans s3 (Same.trans s4 (Same.trans s5 (Same.trans s6 (Same.trans s7 s8)))))))).ne hL9
    have A8 : ∀ x ∈ [V.ref t1, V.ref t2, V.ref t3, V.ref t4, V.ref t5, V.ref t6, V.ref t7, V.ref t8], B3At w G9 x := fun x hx => by
      simp only [List.mem_cons, List.mem_nil_iff, or_false] at hx
      rcases hx with rfl | rfl | rfl | rfl | rfl | rfl | rfl | rfl
      · exact ⟨_, _, _, _, rfl, (s9 _ _ (s8 _ _ (s7 _ _ (s6 _ _ (s5 _ _ (s4 _ _ (s3 _ _ (s2 _ _ h_t1)))))))), .inl ⟨rfl, .inr ⟨1, rfl, z1, .inr ⟨0, rfl, z0, by decide⟩⟩⟩⟩
      · exact ⟨_, _, _, _, rfl, (s9 _ _ (s8 _ _ (s7 _ _ (s6 _ _ (s5 _ _ (s4 _ _ (s3 _ _ h_t2))))))), .inl ⟨rfl, .inl (.inr (.inl rfl))⟩⟩
      · exact ⟨_, _, _, _, rfl, (s9 _ _ (s8 _ _ (s7 _ _ (s6 _ _ (s5 _ _ (s4 _ _ h_t3)))))), .inl ⟨rfl, .inr ⟨0, rfl, z0, .inl (.inr (.inr (.inl ⟨true, rfl⟩)))⟩⟩⟩
      · exact ⟨_, _, _, _, rfl, (s9 _ _ (s8 _ _ (s7 _ _ (s6 _ _ (s5 _ _ h_t4))))), .inl ⟨rfl, .inl (.inr (.inr (.inr ⟨_, rfl⟩)))⟩⟩
      · exact ⟨_, _, _, _, rfl, (s9 _ _ (s8 _ _ (s7 _ _ (s6 _ _ h_t5)))), .inr ⟨.inl ⟨0, rfl, .inl (by decide)⟩, 0, 0, rfl, rfl, z0, z0, by decide⟩⟩
      · exact ⟨_, _, _, _, rfl, (s9 _ _ (s8 _ _ (s7 _ _ h_t6))), .inr ⟨.inl ⟨41, rfl, .inr (by decide)⟩, 0, 1, rfl, rfl, z0, z1, by decide⟩⟩
      · exact ⟨_, _, _, _, rfl, (s9 _ _ (s8 _ _ h_t7)), .inr ⟨.inr (.inl rfl), 0, 0, rfl, rfl, z0, z0, by decide⟩⟩
      · exact ⟨_, _, _, _, rfl, (s9 _ _ h_t8), .inr ⟨.inr (.inr ⟨true, rfl⟩), 0, 0, rfl, rfl, z0, z0, by decide⟩⟩
    clear s1 s2 s3 s4 s5 s6 s7 s8 s9
    refine ⟨fun σ G => ∃ (L : Addr) (xs : List V) (y : Option V), σ = [some (.ref a), some (.ref p), some (.ref L), y] ∧ G L = some (.lst xs) ∧ (∀ x ∈ xs, B3At w G x) ∧ 1 ≤ xs.length ∧ xs.length ≤ 12 ∧ Same H G ∧ L ≠ a, ?_, fun σ G hM => ?_⟩
    · refine ⟨_, rfl, p, _, 0, wV w, rfl, rfl, SqT.of (S9 _ _ hp), a0, ?_⟩
      cases w with
      | none => exact ⟨rfl, _, rfl, iteF ⟨L9, _, _, rfl, h_L9, A8, by show 1 ≤ 8; decide, by show 8 ≤ 12; decide, S9, nL⟩⟩
      | some y =>
        obtain ⟨y0, y1⟩ := wo y rfl
        have rm : (1 : Int) * 2 ^ (y - 1).toNat = two (y - 1) := Int.one_mul _
        have r0 := two_pos (y - 1)
        have el : lst y = -(two (y - 1)) := rfl
        have eg : grt y = two (y - 1) - 1 := rfl
        have no : ∀ s : Int, s < -(two (y - 1)) ∨ two (y - 1) - 1 < s → inR (some y) s = false := fun s h => by
          rw [inR_iff]
          rcases h with h | h
          · rw [decide_eq_false (show ¬ lst y ≤ s by omega), Bool.false_and]
          · rw [decide_eq_false (show ¬ s ≤ grt y by omega), Bool.and_false]
        have ok : ∀ s : Int, -(two (y - 1)) ≤ s → s ≤ two (y - 1) - 1 → inR (some y) s = true := fun s h1 h2 => by
          rw [inR_iff, decide_eq_true (show lst y ≤ s by omega), decide_eq_true (show s ≤ grt y by omega)]
          rfl
        have r1 : 2 ≤ two (y - 1) := by
          have := lst_le_grt y y0
          omega
        refine ⟨rfl, _, rfl, iteT ⟨_, rfl, p, _, 0, .int y, rfl, rfl, SqT.of (S9 _ _ hp), a0, _, _, rfl, rfl, _, _, rfl, rfl, ?_, ?_⟩⟩
        · have e : y - 1 = (((y - 1).toNat : Nat) : Int) := by omega
          rw [e]
          exact shl_ok (n := 1) (by decide) (by omega)
        dsimp only
        rw [rm]
        refine ⟨_, rfl, _, rfl, (by show 3 ≤ sizeLine; decide), fun t1 ht1 => ?_⟩
        generalize hG1 : upd _ t1 _ = G1
        obtain ⟨s1, h_t1⟩ := upd_gen hG1 ht1
        refine ⟨_, rfl, _, _, rfl, rfl, _, _, rfl, rfl, (by show 3 ≤ sizeLine; decide), fun t2 ht2 => ?_⟩
        generalize hG2 : upd _ t2 _ = G2
        obtain ⟨s2, h_t2⟩ := upd_gen hG2 ht2
        refine ⟨_, rfl, _, _, rfl, rfl, _, rfl, _, _, rfl, rfl, (by show 3 ≤ sizeLine; decide), fun t3 ht3 => ?_⟩
        generalize hG3 : upd _ t3 _ = G3
        obtain ⟨s3, h_t3⟩ := upd_gen hG3 ht3
        refine ⟨_, rfl, (by show 3 ≤ sizeLine; decide), fun t4 ht4 => ?_⟩
        generalize hG4 : upd _ t4 _ = G4
        obtain ⟨s4, h_t4⟩ := upd_gen hG4 ht4
        refine ⟨(by show 4 ≤ sizeLine; decide), fun L5 hL5 => ?_⟩
        generalize hG5 : upd _ L5 _ = G5
        obtain ⟨s5, h_L5⟩ := upd_gen hG5 hL5
        have S5 := Same.trans s1 (Same.trans s2 (Same.trans s3 (Same.trans s4 s5)))
        refine ⟨L9, L5, _, _, rfl, rfl, S5 _ _ h_L9, h_L5, (by show 12 ≤ sizeLine; decide), fun L6 hL6 => ?_⟩
        generalize hG6 : upd _ L6 _ = G6
        obtain ⟨s6, h_L6⟩ := upd_gen hG6 hL6
        have n6 : L6 ≠ a := (w9.same S5).ne hL6
        refine ⟨L6, _, _, rfl, h_L6, fun x hx => ?_, by show 1 ≤ 12; decide, by show 12 ≤ 12; decide, S9.trans (S5.trans s6), n6⟩
        rcases List.mem_append.mp hx with hx | hx
        · exact (A8 x hx).same (S5.trans s6)
        · simp only [List.mem_cons, List.mem_nil_iff, or_false] at hx
          rcases hx with rfl | rfl | rfl | rfl
          · exact ⟨_, _, _, _, rfl, s6 _ _ (s5 _ _ (s4 _ _ (s3 _ _ (s2 _ _ h_t1)))), .inl ⟨rfl, .inr ⟨0, rfl, z0, .inl (.inl ⟨_, rfl, no _ (.inr (by omega))⟩)⟩⟩⟩
          · exact ⟨_, _, _, _, rfl, s6 _ _ (s5 _ _ (s4 _ _ (s3 _ _ h_t2))), .inl ⟨rfl, .inl (.inl ⟨_, rfl, no _ (.inl (by omega))⟩)⟩⟩
          · exact ⟨_, _, _, _, rfl, s6 _ _ (s5 _ _ (s4 _ _ h_t3)), .inl ⟨rfl, .inr ⟨_, rfl, ok _ (by omega) (by omega), .inr ⟨_, rfl, ok _ (by omega) (by omega), by omega⟩⟩⟩⟩
          · exact ⟨_, _, _, _, rfl, s6 _ _ (s5 _ _ h_t4), .inr ⟨.inl ⟨_, rfl, .inl (by decide)⟩, 0, 0, rfl, rfl, z0, z0, by decide⟩⟩
    obtain ⟨L, xs, y, rfl, hL, hxs, l1, l12, S, nLa⟩ := hM
    refine ⟨_, rfl, _, rfl, _, rfl, L, _, rfl, .inl (SqL.of hL), a, c, (xs.length : Int), rfl, hw.same S, by omega, by omega, Nat.lt_of_le_of_lt (show _ ≤ 1000 by omega) (by decide +kernel), fun r2 H2 r20 r21 d2 e2 w2 => ?_⟩
    obtain ⟨v, vm, iv⟩ := atI_memV (ws := xs) r20 r21
    refine ⟨L, _, r2, _, rfl, rfl, SqL.of (d2 _ _ nLa hL), iv, ?_⟩
    obtain ⟨t, x, yy, m, rfl, ht, hb⟩ := hxs v vm
    obtain ⟨gx, hgx⟩ := (hw.same S).lst
    exact q t x yy m H2 hb ((SameBut.of S).trans d2) w2 (d2 _ _ (ne_of ht hgx (fun z => nomatch z)) ht)
end
end E1

namespace E1
open PySem PySem.Spec PyProof.Rows L2
section
variable {P : Program} {w : World} {K : PySem.W.Frag} {mg : Str → Option Value} {base : Heap}
theorem sc__law_forged : FnScope ["_law_well_here", "_law_parts", "_law_hold_list", "_law_sort", "_law_step", "_law_whole_here", "_law_at", "_law_lowest", "_law_highest", "_law_some"] ["_law_well_here", "_law_parts", "_law_hold_list"] (defScope s__law_forged) := ⟨rfl, rfl, rfl, by decide +kernel, rfl, by decide +kernel, by decide +kernel⟩
theorem ok__law_forged {f : Addr} {fd : FuncData} (F : Fun K "_law_forged" "_law_forged" s__law_forged f fd) (z : Zs mg) (c__law_draw : Cal P w K mg base 1 "_law_draw" ["_law_well_here", "_law_many"] spDraw) (c__law_all : Cal P w K mg base 1 "_law_all" ["_law_parts"] spLAll) : FnOk P w K mg base CX0 2 f fd ["_law_well_here", "_law_parts", "_law_hold_list"] spLForged := by
  refine F.ok sc__law_forged (fun vs H Q E h => ?_) (fun cdv A outer s H vs Q E hr h => ?_)
  · obtain ⟨B, a, hp, L, n, held, hv, k, c, rfl, _⟩ := h
    rfl
  · obtain ⟨B, a, hp, L, n, held, hv, k, c, rfl, bs, ba, hpp, nok, hL, th, nL, lh, bd, k110, hw, c0, c1, q⟩ := h
    refine ⟨_, (pss_cons (ps_set (i := 3) sc__law_forged.nd rfl (.inl rfl) (pe_cal c__law_draw hr (pa_cons (pv 0) (pa_cons pe_int pa_nil))))
      (pss_cons (ps_set (i := 4) sc__law_forged.nd rfl (.inl rfl) (pe_ix ix_list (pe_lst (pa_cons pe_int (pa_cons (pe_un un_neg pe_int) (pa_cons (pe_op op_sub (pe_cal c__law_draw hr (pa_cons (pv 0) (pa_cons pe_int pa_nil))) pe_int) (pa_cons (pe_op op_shl pe_int pe_int) pa_nil))))) (pe_cal c__law_draw hr (pa_cons (pv 0) (pa_cons pe_int pa_nil))) (fun _ _ => rfl)))
      (pss_cons (ps_set (i := 5) sc__law_forged.nd rfl (.inl rfl) (pe_cal c__law_all hr (pa_cons (pv 1) pa_nil)))
      (pss_cons (ps_if (PW.pt (pw_or (pt_cmpR op_eq (pv 3) pe_int (nomark _)) (pw_or1 (pt_cmpR (op_eqD hr.units) (pv 2) (pe_lst pa_nil) (nomark _))))) (pss_one (ps_ret (pe_ix ix_list (pe_lst (pa_cons (pv 5) (pa_cons (pe_lst pa_nil) (pa_cons (pe_lst (pa_cons (pe_tup (pa_cons pe_int (pa_cons pe_int pa_nil))) pa_nil)) (pa_cons pe_non (pa_cons (pe_tup pa_nil) (pa_cons pe_str pa_nil))))))) (pe_cal c__law_draw hr (pa_cons (pv 0) (pa_cons pe_int pa_nil))) (fun _ _ => rfl)))) pss_nil)
      (pss_cons (ps_set (i := 6) sc__law_forged.nd rfl (.inl rfl) (pe_cal c__law_draw hr (pa_cons (pv 0) (pa_cons (pe_callB call_len_seq (by rfl) z.len PySem.boot_len (pa_cons (pv 2) pa_nil)) pa_nil))))
      (pss_cons (ps_asg (pe_ix ix_list (pv 2) (pv 6) (fun _ _ => rfl)) (pg_tup (by rfl) (pgs_cons (pg_name (i := 7) sc__law_forged.nd rfl (.inl rfl)) (pgs_cons (pg_name (i := 8) sc__law_forged.nd rfl (.inl rfl)) pgs_nil))))
      (pss_cons (ps_set (i := 9) sc__law_forged.nd rfl (.inl rfl) (pe_lst (pa_cons (pe_tup (pa_cons (pe_op op_add (pv 7) (pv 4)) (pa_cons (pv 8) pa_nil))) (pa_cons (pe_tup (pa_cons (pv 7) (pa_cons (pe_op op_add (pv 8) (pv 4)) pa_nil))) (pa_cons (pe_tup (pa_cons (pe_op op_sub (pv 7) pe_int) (pa_cons (pe_op op_add (pv 8) pe_int) pa_nil))) (pa_cons (pe_ix ix_list (pv 5) (pv 6) (fun _ _ => rfl)) pa_nil))))))
      (pss_cons (ps_set (i := 9) sc__law_forged.nd rfl (.inl rfl) (pe_op op_cat (pv 9) (pe_lst (pa_cons (pe_tup (pa_cons (pv 8) (pa_cons (pv 7) pa_nil))) (pa_cons (pe_lst (pa_cons (pv 7) (pa_cons (pv 8) pa_nil))) (pa_cons pe_non (pa_cons (pe_tup (pa_cons (pv 7) (pa_cons (pv 8) (pa_cons (pv 8) pa_nil)))) pa_nil)))))))
      (pss_cons (ps_set (i := 9) sc__law_forged.nd rfl (.inl rfl) (pe_op op_cat (pv 9) (pe_lst (pa_cons (pe_tup (pa_cons pe_non (pa_cons (pv 8) pa_nil))) (pa_cons (pe_tup (pa_cons (pv 7) (pa_cons pe_bl pa_nil))) pa_nil)))))
      (pss_cons (ps_if (pt_cmpR op_lt (pv 3) pe_int (nomark _)) (pss_one (ps_ret (pe_op op_cat (pe_op op_cat (pe_slice sl_list (pv 2) po_none (po_some (pv 6))) (pe_lst (pa_cons (pe_ix ix_list (pv 9) (pe_cal c__law_draw hr (pa_cons (pv 0) (pa_cons pe_int pa_nil))) (fun _ _ => rfl)) pa_nil))) (pe_slice sl_list (pv 2) (po_some (pe_op op_add (pv 6) pe_int)) po_none)))) pss_nil)
      (pss_cons (ps_if (pt_cmpR op_lt (pv 3) pe_int (nomark _)) (pss_one (ps_ret (pe_op op_cat (pe_op op_cat (pe_slice sl_list (pv 2) po_none (po_some (pv 6))) (pe_lst (pa_cons (pe_ix ix_list (pv 9) (pe_cal c__law_draw hr (pa_cons (pv 0) (pa_cons pe_int pa_nil))) (fun _ _ => rfl)) pa_nil))) (pe_slice sl_list (pv 2) (po_some (pe_op op_add (pv 6) pe_int)) po_none)))) pss_nil)
      (pss_cons (ps_set (i := 9) sc__law_forged.nd rfl (.inl rfl) (pe_lst (pa_cons (pe_op op_cat (pe_slice sl_list (pv 2) po_none (po_some (pv 6))) (pe_slice sl_list (pv 2) (po_some (pe_op op_add (pv 6) pe_int)) po_none)) (pa_cons (pe_op op_cat (pv 2) (pe_lst (pa_cons (pe_ix ix_list (pv 2) (pv 6) (fun _ _ => rfl)) pa_nil))) (pa_cons (pv 5) (pa_cons (pe_callTy call_tuple_of (by rfl) z.tuple (by decide +kernel) (pa_cons (pv 2) pa_nil)) pa_nil))))))
      (pss_one (ps_ret (pe_ix ix_list (pv 9) (pe_cal c__law_draw hr (pa_cons (pv 0) (pa_cons pe_int pa_nil))) (fun _ _ => rfl)))))))))))))))), ?_⟩
    have h6 := nok.h2
    refine ⟨_, rfl, a, c, 10, rfl, hw, by omega, by decide, by decide +kernel, fun r1 H1 r10 r11 d1 e1 w1 => ?_⟩
    refine ⟨_, rfl, _, rfl, a, c + 1, 40, rfl, w1, by omega, by decide, by decide +kernel, fun r2 H2 r20 r21 d2 e2 w2 => ⟨_, _, rfl, rfl, _, _, rfl, rfl, ?_⟩⟩
    have q2 : -20 ≤ r2 - 20 ∧ r2 - 20 ≤ 20 := by omega
    refine ⟨⟨by decide, by decide, by decide⟩, (by show 4 ≤ sizeLine; decide), fun t3 ht3 => ?_⟩
    generalize hG3 : upd _ t3 _ = G3
    obtain ⟨s3, h_t3⟩ := upd_gen hG3 ht3
    have n3 : t3 ≠ a := w2.ne ht3
    refine ⟨_, rfl, a, c + 1 + 1, 4, rfl, (w2.same s3), by omega, by decide, by decide +kernel, fun r4 H4 r40 r41 d4 e4 w4 => ?_⟩
    obtain ⟨z4, iz4, bz4⟩ := fourS q2 r40 r41
    refine ⟨t3, _, r4, _, rfl, rfl, SqL.of (d4 _ _ n3 h_t3), iz4, ?_⟩
    have D4 : SameBut a H H4 := d1.trans (d2.trans ((SameBut.of s3).trans d4))
    have S4 : Same B H4 := same_but bs D4 ba
    have hL4 := D4 _ _ nL hL
    obtain ⟨gh, hgh⟩ := hw.lst
    have th4 := th.but D4 hgh
    clear d1 d2 s3 d4 e1 e2 e4 w1 w2 h_t3 ht3 hG3 iz4 n3
    refine ⟨_, rfl, hp, n, rfl, hpp.same S4, nok, fun W wv wh H5 W0 s5 h_W tW lW bW => ?_⟩
    have nW : W ≠ a := w4.ne W0
    have w5 := w4.same s5
    have D5 : SameBut a H H5 := D4.trans (.of s5)
    replace bW : BdS k wh := bW.mono (by omega)
    have hL5 := s5 _ _ hL4
    have th5 := th4.same s5
    have lhv := th.len
    rw [List.length_map] at lhv
    refine ⟨_, rfl, rfl, _, rfl, ite2 (fun _ => ?_) (fun _ => ?_)⟩
    · refine iteT ?_
      refine ⟨_, rfl, (by show 0 ≤ sizeLine; decide), fun t21 ht21 => ?_⟩
      generalize hG21 : upd _ t21 _ = G21
      obtain ⟨s21, h_t21⟩ := upd_gen hG21 ht21
      refine ⟨(by show 2 ≤ sizeLine; decide), fun t22 ht22 => ?_⟩
      generalize hG22 : upd _ t22 _ = G22
      obtain ⟨s22, h_t22⟩ := upd_gen hG22 ht22
      refine ⟨(by show 1 ≤ sizeLine; decide), fun t23 ht23 => ?_⟩
      generalize hG23 : upd _ t23 _ = G23
      obtain ⟨s23, h_t23⟩ := upd_gen hG23 ht23
      refine ⟨(by show 0 ≤ sizeLine; decide), fun t24 ht24 => ?_⟩
      generalize hG24 : upd _ t24 _ = G24
      obtain ⟨s24, h_t24⟩ := upd_gen hG24 ht24
      refine ⟨(by show 6 ≤ sizeLine; decide), fun t25 ht25 => ?_⟩
      generalize hG25 : upd _ t25 _ = G25
      obtain ⟨s25, h_t25⟩ := upd_gen hG25 ht25
      have SS := Same.trans s21 (Same.trans s22 (Same.trans s23 (Same.trans s24 s25)))
      have w25 := w5.same SS
      have n21 : t21 ≠ a := w5.ne ht21
      have n23 : t23 ≠ a := ((w5.same s21).same s22).ne ht23
      have n25 : t25 ≠ a := ((((w5.same s21).same s22).same s23).same s24).ne ht25
      refine ⟨_, rfl, a, c + 1 + 1 + 1, 6, rfl, w25, by omega, by decide, by decide +kernel, fun r26 H26 r260 r261 d26 e26 w26 => ?_⟩
      obtain ⟨v, vm, iv⟩ := atI_memV (ws := [V.ref W, V.ref t21, V.ref t23, V.non, V.ref t24, V.str "box"]) r260 r261
      refine ⟨t25, _, r26, _, rfl, rfl, SqL.of (d26 _ _ n25 h_t25), iv, ?_⟩
      obtain ⟨gx, hgx⟩ := w25.lst
      have SB : SameBut a H H26 := D5.trans ((SameBut.of SS).trans d26)
      have w26b := w26.mono (d := c + 6) (by omega)
      have TU : ∀ p ys, G25 p = some (.tup ys) → H26 p = some (.tup ys) := fun p ys e => d26 _ _ (ne_of e hgx (fun z => nomatch z)) e
      simp only [List.mem_cons, List.mem_nil_iff, or_false] at vm
      rcases vm with rfl | rfl | rfl | rfl | rfl | rfl
      · exact q _ (some (_root_.List.map some wh)) H26 SB w26b ⟨_, _, rfl, nW, d26 _ _ nW (SS _ _ h_W), ((tW.same SS).but d26 hgx).ot⟩ (fun os e => by
          cases e
          exact ⟨by rw [List.length_map]; omega, .of (bW.mono (by omega))⟩)
      · exact q _ (some []) H26 SB w26b ⟨_, _, rfl, n21, d26 _ _ n21 (s25 _ _ (s24 _ _ (s23 _ _ (s22 _ _ h_t21)))), ⟨rfl, fun i v e => by cases e⟩⟩ (fun os e => by
          cases e
          exact ⟨by show 0 ≤ 1000; decide, fun s z => nomatch z⟩)
      · exact q _ (some [some (0, 0)]) H26 SB w26b ⟨_, _, rfl, n23, d26 _ _ n23 (s25 _ _ (s24 _ _ h_t23)), .one ⟨_, rfl, TU _ _ (s25 _ _ (s24 _ _ (s23 _ _ h_t22)))⟩⟩ (fun os e => by
          cases e
          exact ⟨by show 1 ≤ 1000; decide, BdO.one (zeroB (by omega))⟩)
      · exact q _ none H26 SB w26b (.inl rfl) (fun os e => nomatch e)
      · exact q _ none H26 SB w26b (.inr (.inr ⟨_, _, rfl, TU _ _ (s25 _ _ h_t24)⟩)) (fun os e => nomatch e)
      · exact q _ none H26 SB w26b (.inr (.inl ⟨_, rfl⟩)) (fun os e => nomatch e)
    · refine ⟨_, rfl, (by show 0 ≤ sizeLine; decide), fun t6 ht6 => ?_⟩
      generalize hG6 : upd _ t6 _ = G6
      obtain ⟨s6, h_t6⟩ := upd_gen hG6 ht6
      have D6 := D5.trans (.of s6)
      have w6 := w5.same s6
      refine ⟨.list (held.map spD), .list (([] : List Sp2).map spD), .lst (SqL.of (s6 _ _ hL5)) (dp_sp (th5.same s6)), .lst (SqL.of h_t6) .nil, sp_shaped _, sp_shaped _, _, rfl, ?_⟩
      rw [eqv_spl]
      by_cases he : held = []
      · refine iteC (d := true) (decide_eq_true he) (iteT ?_)
        have h_W6 := s6 _ _ h_W
        have tW6 := tW.same s6
        refine ⟨_, rfl, (by show 0 ≤ sizeLine; decide), fun t21 ht21 => ?_⟩
        generalize hG21 : upd _ t21 _ = G21
        obtain ⟨s21, h_t21⟩ := upd_gen hG21 ht21
        refine ⟨(by show 2 ≤ sizeLine; decide), fun t22 ht22 => ?_⟩
        generalize hG22 : upd _ t22 _ = G22
        obtain ⟨s22, h_t22⟩ := upd_gen hG22 ht22
        refine ⟨(by show 1 ≤ sizeLine; decide), fun t23 ht23 => ?_⟩
        generalize hG23 : upd _ t23 _ = G23
        obtain ⟨s23, h_t23⟩ := upd_gen hG23 ht23
        refine ⟨(by show 0 ≤ sizeLine; decide), fun t24 ht24 => ?_⟩
        generalize hG24 : upd _ t24 _ = G24
        obtain ⟨s24, h_t24⟩ := upd_gen hG24 ht24
        refine ⟨(by show 6 ≤ sizeLine; decide), fun t25 ht25 => ?_⟩
        generalize hG25 : upd _ t25 _ = G25
        obtain ⟨s25, h_t25⟩ := upd_gen hG25 ht25
        have SS := Same.trans s21 (Same.trans s22 (Same.trans s23 (Same.trans s24 s25)))
        have w25 := w6.same SS
        have n21 : t21 ≠ a := w6.ne ht21
        have n23 : t23 ≠ a := ((w6.same s21).same s22).ne ht23
        have n25 : t25 ≠ a := ((((w6.same s21).same s22).same s23).same s24).ne ht25
        refine ⟨_, rfl, a, c + 1 + 1 + 1, 6, rfl, w25, by omega, by decide, by decide +kernel, fun r26 H26 r260 r261 d26 e26 w26 => ?_⟩
        obtain ⟨v, vm, iv⟩ := atI_memV (ws := [V.ref W, V.ref t21, V.ref t23, V.non, V.ref t24, V.str "box"]) r260 r261
        refine ⟨t25, _, r26, _, rfl, rfl, SqL.of (d26 _ _ n25 h_t25), iv, ?_⟩
        obtain ⟨gx, hgx⟩ := w25.lst
        have SB : SameBut a H H26 := D6.trans ((SameBut.of SS).trans d26)
        have w26b := w26.mono (d := c + 6) (by omega)
        have TU : ∀ p ys, G25 p = some (.tup ys) → H26 p = some (.tup ys) := fun p ys e => d26 _ _ (ne_of e hgx (fun z => nomatch z)) e
        simp only [List.mem_cons, List.mem_nil_iff, or_false] at vm
        rcases vm with rfl | rfl | rfl | rfl | rfl | rfl
        · exact q _ (some (_root_.List.map some wh)) H26 SB w26b ⟨_, _, rfl, nW, d26 _ _ nW (SS _ _ h_W6), ((tW6.same SS).but d26 hgx).ot⟩ (fun os e => by
            cases e
            exact ⟨by rw [List.length_map]; omega, .of (bW.mono (by omega))⟩)
        · exact q _ (some []) H26 SB w26b ⟨_, _, rfl, n21, d26 _ _ n21 (s25 _ _ (s24 _ _ (s23 _ _ (s22 _ _ h_t21)))), ⟨rfl, fun i v e => by cases e⟩⟩ (fun os e => by
            cases e
            exact ⟨by show 0 ≤ 1000; decide, fun s z => nomatch z⟩)
        · exact q _ (some [some (0, 0)]) H26 SB w26b ⟨_, _, rfl, n23, d26 _ _ n23 (s25 _ _ (s24 _ _ h_t23)), .one ⟨_, rfl, TU _ _ (s25 _ _ (s24 _ _ (s23 _ _ h_t22)))⟩⟩ (fun os e => by
            cases e
            exact ⟨by show 1 ≤ 1000; decide, BdO.one (zeroB (by omega))⟩)
        · exact q _ none H26 SB w26b (.inl rfl) (fun os e => nomatch e)
        · exact q _ none H26 SB w26b (.inr (.inr ⟨_, _, rfl, TU _ _ (s25 _ _ h_t24)⟩)) (fun os e => nomatch e)
        · exact q _ none H26 SB w26b (.inr (.inl ⟨_, rfl⟩)) (fun os e => nomatch e)
      · refine iteC (d := false) (decide_eq_false he) (iteF ?_)
        have hpos : 0 < held.length := List.length_pos_iff.mpr he
        refine ⟨_, rfl, _, rfl, L, _, rfl, .inl (SqL.of (s6 _ _ hL5)), a, c + 1 + 1 + 1, (hv.length : Int), rfl, w6, by omega, by omega, Nat.lt_of_le_of_lt (show _ ≤ 1000 by omega) (by decide +kernel), fun r7 H7 r70 r71 d7 e7 w7 => ?_⟩
        obtain ⟨i, rfl⟩ : ∃ i : Nat, r7 = i := ⟨r7.toNat, by omega⟩
        have D7 := D6.trans d7
        obtain ⟨g6, hg6⟩ := w6.lst
        have hL7 := D7 _ _ nL hL
        have th7 := th.but D7 hgh
        have h_W7 := d7 _ _ nW (s6 _ _ h_W)
        have tW7 := (tW.same s6).but d7 hg6
        have il : i < held.length := by omega
        obtain ⟨tp, etp, htp⟩ := spans_at th7 il
        obtain ⟨wp, ewp, hwp⟩ := spans_at tW7 (show i < wh.length by omega)
        obtain ⟨b1, b2⟩ := bd.get i
        obtain ⟨c1', c2'⟩ := bW.get i
        have ei : (i : Int) + 1 = ((i + 1 : Nat) : Int) := by omega
        clear D5 D4 D6 d7 e7 hg6 s5 s6 ht6 h_t6 hG6 h_W tW hL4 hL5 th4 th5 S4 w4 w5 w6
        generalize held.getD i (0, 0) = s0 at *
        generalize wh.getD i (0, 0) = s9 at *
        refine ⟨_, rfl, _, rfl, L, _, _, .ref tp, rfl, rfl, SqL.of hL7, atI_nat etp, tp, _, rfl, SqT.of htp, rfl, _, _, rfl, _, _, rfl, rfl, ?_⟩
        refine ⟨_, rfl, _, rfl, _, _, rfl, rfl, _, rfl, (by show 2 ≤ sizeLine; decide), fun t31 ht31 => ?_⟩
        generalize hG31 : upd _ t31 _ = G31
        obtain ⟨s31, h_t31⟩ := upd_gen hG31 ht31
        refine ⟨_, rfl, _, rfl, _, rfl, _, _, rfl, rfl, (by show 2 ≤ sizeLine; decide), fun t32 ht32 => ?_⟩
        generalize hG32 : upd _ t32 _ = G32
        obtain ⟨s32, h_t32⟩ := upd_gen hG32 ht32
        refine ⟨_, rfl, _, _, rfl, rfl, _, rfl, _, _, rfl, rfl, (by show 2 ≤ sizeLine; decide), fun t33 ht33 => ?_⟩
        generalize hG33 : upd _ t33 _ = G33
        obtain ⟨s33, h_t33⟩ := upd_gen hG33 ht33
        have q3 := Same.trans s31 (Same.trans s32 s33)
        refine ⟨_, rfl, _, rfl, W, _, _, .ref wp, rfl, rfl, SqL.of (q3 _ _ h_W7), atI_nat ewp, (by show 4 ≤ sizeLine; decide), fun t34 ht34 => ?_⟩
        generalize hG34 : upd _ t34 _ = G34
        obtain ⟨s34, h_t34⟩ := upd_gen hG34 ht34
        refine ⟨_, rfl, _, rfl, _, rfl, (by show 2 ≤ sizeLine; decide), fun t36 ht36 => ?_⟩
        generalize hG36 : upd _ t36 _ = G36
        obtain ⟨s36, h_t36⟩ := upd_gen hG36 ht36
        refine ⟨_, rfl, _, rfl, (by show 2 ≤ sizeLine; decide), fun t37 ht37 => ?_⟩
        generalize hG37 : upd _ t37 _ = G37
        obtain ⟨s37, h_t37⟩ := upd_gen hG37 ht37
        refine ⟨_, rfl, _, rfl, _, rfl, (by show 3 ≤ sizeLine; decide), fun t38 ht38 => ?_⟩
        generalize hG38 : upd _ t38 _ = G38
        obtain ⟨s38, h_t38⟩ := upd_gen hG38 ht38
        refine ⟨(by show 4 ≤ sizeLine; decide), fun t39 ht39 => ?_⟩
        generalize hG39 : upd _ t39 _ = G39
        obtain ⟨s39, h_t39⟩ := upd_gen hG39 ht39
        have q4 := Same.trans s36 (Same.trans s37 (Same.trans s38 s39))
        refine ⟨t34, t39, _, _, rfl, rfl, q4 _ _ h_t34, h_t39, (by show 8 ≤ sizeLine; decide), fun t40 ht40 => ?_⟩
        generalize hG40 : upd _ t40 _ = G40
        obtain ⟨s40, h_t40⟩ := upd_gen hG40 ht40
        refine ⟨_, rfl, _, rfl, (by show 2 ≤ sizeLine; decide), fun t41 ht41 => ?_⟩
        generalize hG41 : upd _ t41 _ = G41
        obtain ⟨s41, h_t41⟩ := upd_gen hG41 ht41
        refine ⟨_, rfl, (by show 2 ≤ sizeLine; decide), fun t42 ht42 => ?_⟩
        generalize hG42 : upd _ t42 _ = G42
        obtain ⟨s42, h_t42⟩ := upd_gen hG42 ht42
        refine ⟨(by show 2 ≤ sizeLine; decide), fun t43 ht43 => ?_⟩
        generalize hG43 : upd _ t43 _ = G43
        obtain ⟨s43, h_t43⟩ := upd_gen hG43 ht43
        have q5 := Same.trans s41 (Same.trans s42 s43)
        refine ⟨t40, t43, _, _, rfl, rfl, q5 _ _ h_t40, h_t43, (by show 10 ≤ sizeLine; decide), fun t44 ht44 => ?_⟩
        have n44 : t44 ≠ a := (w7.same (q3.trans (s34.trans (q4.trans (s40.trans q5))))).ne ht44
        generalize hG44 : upd _ t44 _ = G44
        obtain ⟨s44, h_t44⟩ := upd_gen hG44 ht44
        have SC : Same H7 G44 := q3.trans (s34.trans (q4.trans (s40.trans (q5.trans s44))))
        have w44 := w7.same SC
        have k70 : 70 ≤ k := by omega
        have lt1 : 2 ^ k ≤ 2 ^ (k + 200) := Nat.pow_le_pow_right (by decide) (by omega)
        have IT : ∀ v ∈ [V.ref t31, V.ref t32, V.ref t33, V.ref wp, V.ref t36, V.ref t37, V.non, V.ref t38, V.ref t41, V.ref t42], ItemB (k + 200) G44 v := fun v hv => by
          have u5 := s40.trans (q5.trans s44)
          have u4 := q4.trans u5
          have u3 := s34.trans u4
          simp only [List.mem_cons, List.mem_nil_iff, or_false] at hv
          rcases hv with rfl | rfl | rfl | rfl | rfl | rfl | rfl | rfl | rfl | rfl
          · exact ⟨some (s0.1 + z4, s0.2), ⟨_, rfl, u3 _ _ (s33 _ _ (s32 _ _ h_t31))⟩, add_lt b1 bz4 k70, Nat.lt_of_lt_of_le b2 lt1⟩
          · exact ⟨some (s0.1, s0.2 + z4), ⟨_, rfl, u3 _ _ (s33 _ _ h_t32)⟩, Nat.lt_of_lt_of_le b1 lt1, add_lt b2 bz4 k70⟩
          · exact ⟨some (s0.1 - 1, s0.2 + 1), ⟨_, rfl, u3 _ _ h_t33⟩, add_lt (y := -1) b1 (by decide) k70, add_lt b2 (by decide) k70⟩
          · exact ⟨some s9, ⟨_, rfl, SC _ _ hwp⟩, Nat.lt_of_lt_of_le c1' lt1, Nat.lt_of_lt_of_le c2' lt1⟩
          · exact ⟨some (s0.2, s0.1), ⟨_, rfl, u5 _ _ (s39 _ _ (s38 _ _ (s37 _ _ h_t36)))⟩, Nat.lt_of_lt_of_le b2 lt1, Nat.lt_of_lt_of_le b1 lt1⟩
          · exact ⟨none, .inr (.inl ⟨_, _, rfl, u5 _ _ (s39 _ _ (s38 _ _ h_t37))⟩), zeroB (by omega)⟩
          · exact ⟨none, .inl rfl, zeroB (by omega)⟩
          · exact ⟨none, .inr (.inr (.inl ⟨_, _, rfl, u5 _ _ (s39 _ _ h_t38), show (3 : Nat) ≠ 2 by decide⟩)), zeroB (by omega)⟩
          · exact ⟨none, .inr (.inr (.inr (.inl ⟨_, _, rfl, s44 _ _ (s43 _ _ (s42 _ _ h_t41))⟩))), zeroB (by omega)⟩
          · exact ⟨none, .inr (.inr (.inr (.inr ⟨_, _, rfl, s44 _ _ (s43 _ _ h_t42)⟩))), zeroB (by omega)⟩
        have D44 := D7.trans (.of SC)
        have hL44 := SC _ _ hL7
        have th44 := th7.same SC
        have h_W44 := SC _ _ h_W7
        have tW44 := tW7.same SC
        have etp44 := etp
        have htp44 := SC _ _ htp
        clear s31 s32 s33 s34 s36 s37 s38 s39 s40 s41 s42 s43 s44 q3 q4 q5 h_t31 h_t32 h_t33 h_t34 h_t36 h_t37 h_t38 h_t39 h_t40 h_t41 h_t42 h_t43 ht31 ht32 ht33 ht34 ht36 ht37 ht38 ht39 ht40 ht41 ht42 ht43 ht44 hG31 hG32 hG33 hG34 hG36 hG37 hG38 hG39 hG40 hG41 hG42 hG43 hG44 SC hwp htp
        obtain ⟨g44, hg44⟩ := w44.lst
        refine ⟨_, rfl, _, _, rfl, rfl, _, rfl, ite2 (fun _ => ?_) (fun _ => ⟨_, rfl, _, _, rfl, rfl, _, rfl, ite2 (fun _ => ?_) (fun _ => ?_)⟩)⟩
        · refine ⟨_, rfl, _, rfl, _, rfl, L, _, rfl, SqL.of hL44, fun t51 ht51 => ?_⟩
          have n51 : t51 ≠ a := w44.ne ht51
          generalize hG51 : upd _ t51 _ = G51
          obtain ⟨s51, h_t51⟩ := upd_gen hG51 ht51
          rw [cut_to] at h_t51
          refine ⟨_, rfl, _, rfl, a, c + 1 + 1 + 1 + 1, 3, rfl, (w44.same s51), by omega, by decide, by decide +kernel, fun r52 H52 r520 r521 d52 e52 w52 => ?_⟩
          obtain ⟨v, vm, iv⟩ := atI_memV (ws := [V.ref t31, V.ref t32, V.ref t33, V.ref wp, V.ref t36, V.ref t37, V.non, V.ref t38, V.ref t41, V.ref t42]) r520 (Int.lt_of_lt_of_le r521 (show (3 : Int) ≤ 10 by decide))
          refine ⟨t44, _, r52, v, rfl, rfl, SqL.of (d52 _ _ n44 (s51 _ _ h_t44)), iv, (by show 1 ≤ sizeLine; decide), fun t53 ht53 => ?_⟩
          have d51 := (SameBut.of (a := a) s51).trans d52
          have IV := ((IT v vm).same s51).but d52 (s51 _ _ hg44) (w52.lst).choose_spec
          have t52 := (th44.same s51).but d52 (s51 _ _ hg44)
          generalize hG53 : upd _ t53 _ = G53
          obtain ⟨s53, h_t53⟩ := upd_gen hG53 ht53
          have l51 : (hv.take i).length ≤ 6 := by rw [List.length_take]; omega
          refine ⟨t51, t53, _, _, rfl, rfl, s53 _ _ (d52 _ _ n51 h_t51), h_t53, sl_le (by simp only [List.length_append, List.length_cons, List.length_nil]; omega), fun t54 ht54 => ?_⟩
          generalize hG54 : upd _ t54 _ = G54
          obtain ⟨s54, h_t54⟩ := upd_gen hG54 ht54
          have u4 := Same.trans s53 s54
          refine ⟨_, rfl, _, rfl, _, _, rfl, rfl, _, rfl, ?_⟩
          dsimp only [tNoPart]
          refine ⟨L, _, rfl, SqL.of (u4 _ _ (d51 _ _ nL hL44)), fun t55 ht55 => ?_⟩
          generalize hG55 : upd _ t55 _ = G55
          obtain ⟨s55, h_t55⟩ := upd_gen hG55 ht55
          rw [ei, cut_from (by omega)] at h_t55
          have l55 : (hv.drop (i + 1)).length ≤ 6 := by rw [List.length_drop]; omega
          refine ⟨t54, t55, _, _, rfl, rfl, s55 _ _ h_t54, h_t55, sl_le (by simp only [List.length_append, List.length_cons, List.length_nil]; omega), fun t56 ht56 => ?_⟩
          have n56 : t56 ≠ a := ((w52.same u4).same s55).ne ht56
          generalize hG56 : upd _ t56 _ = G56
          obtain ⟨s56, h_t56⟩ := upd_gen hG56 ht56
          have u6 := u4.trans (Same.trans s55 s56)
          obtain ⟨os, ot, lo, bo⟩ := put_ot (i := i) (t52.same u6) (bd.mono (j := k + 200) (by omega)) (IV.same u6)
          exact q _ (some os) G56 (D44.trans (d51.trans (.of u6))) ((w52.same u6).mono (by omega)) ⟨_, _, rfl, n56, h_t56, ot⟩ (fun os2 e => by
            cases e
            exact ⟨by omega, bo⟩)
        · refine ⟨_, rfl, _, rfl, _, rfl, L, _, rfl, SqL.of hL44, fun t51 ht51 => ?_⟩
          have n51 : t51 ≠ a := w44.ne ht51
          generalize hG51 : upd _ t51 _ = G51
          obtain ⟨s51, h_t51⟩ := upd_gen hG51 ht51
          rw [cut_to] at h_t51
          refine ⟨_, rfl, _, rfl, a, c + 1 + 1 + 1 + 1, 10, rfl, (w44.same s51), by omega, by decide, by decide +kernel, fun r52 H52 r520 r521 d52 e52 w52 => ?_⟩
          obtain ⟨v, vm, iv⟩ := atI_memV (ws := [V.ref t31, V.ref t32, V.ref t33, V.ref wp, V.ref t36, V.ref t37, V.non, V.ref t38, V.ref t41, V.ref t42]) r520 (Int.lt_of_lt_of_le r521 (show (10 : Int) ≤ 10 by decide))
          refine ⟨t44, _, r52, v, rfl, rfl, SqL.of (d52 _ _ n44 (s51 _ _ h_t44)), iv, (by show 1 ≤ sizeLine; decide), fun t53 ht53 => ?_⟩
          have d51 := (SameBut.of (a := a) s51).trans d52
          have IV := ((IT v vm).same s51).but d52 (s51 _ _ hg44) (w52.lst).choose_spec
          have t52 := (th44.same s51).but d52 (s51 _ _ hg44)
          generalize hG53 : upd _ t53 _ = G53
          obtain ⟨s53, h_t53⟩ := upd_gen hG53 ht53
          have l51 : (hv.take i).length ≤ 6 := by rw [List.length_take]; omega
          refine ⟨t51, t53, _, _, rfl, rfl, s53 _ _ (d52 _ _ n51 h_t51), h_t53, sl_le (by simp only [List.length_append, List.length_cons, List.length_nil]; omega), fun t54 ht54 => ?_⟩
          generalize hG54 : upd _ t54 _ = G54
          obtain ⟨s54, h_t54⟩ := upd_gen hG54 ht54
          have u4 := Same.trans s53 s54
          refine ⟨_, rfl, _, rfl, _, _, rfl, rfl, _, rfl, ?_⟩
          dsimp only [tNoPart]
          refine ⟨L, _, rfl, SqL.of (u4 _ _ (d51 _ _ nL hL44)), fun t55 ht55 => ?_⟩
          generalize hG55 : upd _ t55 _ = G55
          obtain ⟨s55, h_t55⟩ := upd_gen hG55 ht55
          rw [ei, cut_from (by omega)] at h_t55
          have l55 : (hv.drop (i + 1)).length ≤ 6 := by rw [List.length_drop]; omega
          refine ⟨t54, t55, _, _, rfl, rfl, s55 _ _ h_t54, h_t55, sl_le (by simp only [List.length_append, List.length_cons, List.length_nil]; omega), fun t56 ht56 => ?_⟩
          have n56 : t56 ≠ a := ((w52.same u4).same s55).ne ht56
          generalize hG56 : upd _ t56 _ = G56
          obtain ⟨s56, h_t56⟩ := upd_gen hG56 ht56
          have u6 := u4.trans (Same.trans s55 s56)
          obtain ⟨os, ot, lo, bo⟩ := put_ot (i := i) (t52.same u6) (bd.mono (j := k + 200) (by omega)) (IV.same u6)
          exact q _ (some os) G56 (D44.trans (d51.trans (.of u6))) ((w52.same u6).mono (by omega)) ⟨_, _, rfl, n56, h_t56, ot⟩ (fun os2 e => by
            cases e
            exact ⟨by omega, bo⟩)
        · refine ⟨_, rfl, _, rfl, _, rfl, L, _, rfl, SqL.of hL44, fun t51 ht51 => ?_⟩
          generalize hG51 : upd _ t51 _ = G51
          obtain ⟨s51, h_t51⟩ := upd_gen hG51 ht51
          rw [cut_to] at h_t51
          refine ⟨_, rfl, _, rfl, _, _, rfl, rfl, _, rfl, ?_⟩
          dsimp only [tNoPart]
          refine ⟨L, _, rfl, SqL.of (s51 _ _ hL44), fun t52 ht52 => ?_⟩
          generalize hG52 : upd _ t52 _ = G52
          obtain ⟨s52, h_t52⟩ := upd_gen hG52 ht52
          rw [ei, cut_from (by omega)] at h_t52
          have l51 : (hv.take i).length ≤ 6 := by rw [List.length_take]; omega
          have l52 : (hv.drop (i + 1)).length ≤ 6 := by rw [List.length_drop]; omega
          refine ⟨t51, t52, _, _, rfl, rfl, s52 _ _ h_t51, h_t52, sl_le (by omega), fun t53 ht53 => ?_⟩
          have n53 : t53 ≠ a := ((w44.same s51).same s52).ne ht53
          generalize hG53 : upd _ t53 _ = G53
          obtain ⟨s53, h_t53⟩ := upd_gen hG53 ht53
          have u3 := Same.trans s51 (Same.trans s52 s53)
          refine ⟨_, rfl, _, rfl, _, rfl, L, _, _, .ref tp, rfl, rfl, SqL.of (u3 _ _ hL44), atI_nat etp44, (by show 1 ≤ sizeLine; decide), fun t54 ht54 => ?_⟩
          generalize hG54 : upd _ t54 _ = G54
          obtain ⟨s54, h_t54⟩ := upd_gen hG54 ht54
          refine ⟨L, t54, _, _, rfl, rfl, s54 _ _ (u3 _ _ hL44), h_t54, sl_le (by simp only [List.length_cons, List.length_nil]; omega), fun t55 ht55 => ?_⟩
          have n55 : t55 ≠ a := ((w44.same u3).same s54).ne ht55
          generalize hG55 : upd _ t55 _ = G55
          obtain ⟨s55, h_t55⟩ := upd_gen hG55 ht55
          have u5 := u3.trans (Same.trans s54 s55)
          refine ⟨_, rfl, _, rfl, L, _, rfl, .inl ⟨SqL.of (u5 _ _ hL44), fun t56 ht56 => ?_⟩⟩
          generalize hG56 : upd _ t56 _ = G56
          obtain ⟨s56, h_t56⟩ := upd_gen hG56 ht56
          refine ⟨(by show 4 ≤ sizeLine; decide), fun t57 ht57 => ?_⟩
          have n57 : t57 ≠ a := ((w44.same u5).same s56).ne ht57
          generalize hG57 : upd _ t57 _ = G57
          obtain ⟨s57, h_t57⟩ := upd_gen hG57 ht57
          have u7 := u5.trans (Same.trans s56 s57)
          refine ⟨_, rfl, _, rfl, a, c + 1 + 1 + 1 + 1, 4, rfl, (w44.same u7), by omega, by decide, by decide +kernel, fun r58 H58 r580 r581 d58 e58 w58 => ?_⟩
          obtain ⟨v, vm, iv⟩ := atI_memV (ws := [V.ref t53, V.ref t55, V.ref W, V.ref t56]) r580 r581
          refine ⟨t57, _, r58, v, rfl, rfl, SqL.of (d58 _ _ n57 h_t57), iv, ?_⟩
          have SB := D44.trans ((SameBut.of u7).trans d58)
          have w9 := w58.mono (d := c + 6) (by omega)
          have hg57 := u7 _ _ hg44
          have t9 := (th44.same u7).but d58 hg57
          simp only [List.mem_cons, List.mem_nil_iff, or_false] at vm
          rcases vm with rfl | rfl | rfl | rfl
          · have o1 := TsAt.ot (l := held.take i) (vs := hv.take i) (by rw [List.map_take]; exact t9.take i)
            have o2 := TsAt.ot (l := held.drop (i + 1)) (vs := hv.drop (i + 1)) (by rw [List.map_drop]; exact t9.drop (i + 1))
            refine q _ (some _) H58 SB w9 ⟨_, _, rfl, n53, d58 _ _ n53 (s57 _ _ (s56 _ _ (s55 _ _ (s54 _ _ h_t53)))), o1.app o2⟩ (fun os e => ?_)
            cases e
            refine ⟨by simp only [List.length_append, List.length_map, List.length_take, List.length_drop]; omega, BdO.app (.of ?_) (.of ?_)⟩
            · exact (bd.sub fun x hx => List.mem_of_mem_take hx).mono (by omega)
            · exact (bd.sub fun x hx => List.mem_of_mem_drop hx).mono (by omega)
          · refine q _ (some (held.map some ++ [some s0])) H58 SB w9 ⟨_, _, rfl, n55, d58 _ _ n55 (s57 _ _ (s56 _ _ h_t55)), (TsAt.ot t9).app (.one ⟨_, rfl, d58 _ _ (ne_of (u7 _ _ htp44) hg57 (fun z => nomatch z)) (u7 _ _ htp44)⟩)⟩ (fun os e => ?_)
            cases e
            exact ⟨by rw [List.length_append, List.length_map, List.length_singleton]; omega, BdO.app (.of (bd.mono (by omega))) (BdO.one ⟨Nat.lt_of_lt_of_le b1 lt1, Nat.lt_of_lt_of_le b2 lt1⟩)⟩
          · refine q _ (some (wh.map some)) H58 SB w9 ⟨_, _, rfl, nW, d58 _ _ nW (u7 _ _ h_W44), TsAt.ot ((tW44.same u7).but d58 hg57)⟩ (fun os e => ?_)
            cases e
            exact ⟨by rw [List.length_map]; omega, .of (bW.mono (by omega))⟩
          · exact q _ none H58 SB w9 (.inr (.inr ⟨_, _, rfl, d58 _ _ (ne_of (s57 _ _ h_t56) hg57 (fun z => nomatch z)) (s57 _ _ h_t56)⟩)) (fun os e => nomatch e)

end
end E1

namespace E1
open PySem PySem.Spec PyProof.Rows L2
/-! ### a lambda called by the def that got it, with that def's own slots in what it wants of errors -/
section
variable {X : Cx}
abbrev lamQ (X : Cx) : Str := X.env.qual ++ "<lambda>"
abbrev lamOb (X : Cx) (pr : Arguments) (bd : Expr) (sc : Scope) (nm : Value) (cd : Addr) (ctx : Value) : Obj := PySem.W.kla_obj "<lambda>" (lamQ X) pr bd sc (cloFrom X.env.cells sc.names []) nm cd ctx
/-- the context of the def at g, called from X at state s -/
abbrev gotCx (X : Cx) (Ng : List Str) (qg : Str) (sg : Scope) (g : Addr) (cdg : Value) (s : Shared) (H : Hp) : Cx := cxOf C8.CX0 X.prog X.w X.K X.mg X.base Ng qg sg g cdg X.A X.stack s H C8.E0
theorem pe_actS {pins : List (Addr × Obj)} {σ : L2.St} {H : Hp} {s : Shared} {Ng : List Str} {qg : Str} {sg : Scope} {g fl cd : Addr} {cdg nm ctx : Value} {pr : Arguments} {bd : Expr} {sc : Scope} {k i : Nat} {a : Str} {pn : List (Addr × Obj)} {xe : Value → Shared → Prop} {W : WX} {t : XK → TE} {p1 p2 : Pos}
    (I : Inv X pins σ H s) (L : LamX.LamS X.env.scope sc) (ho : s.heap.get? fl = some (lamOb X pr bd sc nm cd ctx)) (hn : H fl = none) (hs : fl ∉ frs X.stack)
    (hb : bindArgs (PySem.W.kla_fn "<lambda>" (lamQ X) pr bd sc (cloFrom X.env.cells sc.names []) nm (.ref cd) ctx) ⟨[], []⟩ = pure [])
    (tk : Takes ((gotCx X Ng qg sg g cdg s H).tr pn xe) W) (rm : Room (k + 1) (X.A.deeper (envOfC qg sg s.heap.objs.size g cdg)))
    (hbd : ∀ (E : XK) (A : Around) (out : List Env) (s : Shared) (H : Hp), Room k (A.deeper (LamX.lamEnv X sc s.heap.objs.size fl cd)) → PE (LamX.lamCx X A out s H E sc fl cd) bd (t E))
    (hN : Ng[i]? = some a) (hv : Vis sg a) (h1 : (a == ("__debug__" : Str)) = false := by decide) (h2 : (a == ("__classdict__" : Str)) = false := by decide) :
    PE ((gotCx X Ng qg sg g cdg s H).tr pn xe) (.Call (.Name a p1) [] [] p2)
      (fun τ G Q => τ[i]? = some (some (.ref fl)) ∧ G cd = some (LamX.CodeO cd (lamQ X)) ∧ t (WE W τ) σ G Q) := by
  constructor
  intro pz sz τ G Q J ⟨hτ, hG, ht⟩
  have nameRun := (pe_var (X := (gotCx X Ng qg sg g cdg s H).tr pn xe) (pos := p1) (i := i) hN hv h1 h2).run pz sz τ G (fun v G' => v = .ref fl ∧ G' = G) J ⟨.ref fl, hτ, rfl, rfl⟩
  refine wpAny_Call_Name_kw (thn nameRun fun u s1 ⟨v, G', J1, rv, ev, eG⟩ => ?_)
  subst ev eG
  obtain rfl : u = Value.ref fl := rv
  have obj1 := J1.base.keep fl _ ho hn hs (fun z => absurd z (by simp [gotCx, cxOf, Cx.tr]))
  refine PySem.W.callWith_F0 ⟨_, _, _, _, obj1⟩ ?_
  have old : Un (frs X.stack) [] H G' s.heap s1.heap := J1.base
  obtain ⟨⟨oc, vs, tk9, hoc, hdc, hvc⟩, _, _⟩ := J1.hok cd _ hG
  have through : codeAny (model X.prog X.w) (X.A.deeper (envOfC qg sg s.heap.objs.size g cdg)) (.call (.ref fl) ⟨[], []⟩)
      (CR (L2.CX X.prog X.w) (envOfC qg sg s.heap.objs.size g cdg :: X.stack) X.prog X.w G' s1 Q (WE W τ)) s1 := by
    refine PySem.W.kla_callFunE rm.depth obj1 rfl L.co L.gen rfl ⟨cd, oc, vs, tk9, rfl, hoc, hdc, hvc⟩ ?_
    rw [hb]
    refine wpAny_pure (wpAny_newFunctionEnv (fun y m => (L.own y m).2) (fun y m => absurd m (by simp)) (fun hp ns sb => ⟨J1.nolimit.fresh _ sb, ?_⟩) L.kind)
    show codeAny _ _ (.expr bd (LamX.lamEnv X sc s1.heap.objs.size fl cd)) _ _
    have still : ∀ b o, s1.heap.get? b = some o → hp.get? b = some o := fun b o e => sb.extBut b o (Nat.ne_of_lt (Heap.lt_size e)) (Heap.get?_push_of_some _ e)
    have J2 := LamX.lam_start2 (E := WE W τ) (f := fl) (c' := cd) (tk := s1.toks + ([] : List (Str × Value)).length) I L J1.env0 rm.hd old ns still
    refine PySem.W.kla_codeExpr (wpAny_mono ((hbd (WE W τ) _ _ s1 G' (rm.deeper _)).run [] _ _ G' Q J2 ht) (fun v s' ⟨v', G2, J3, rv, qv⟩ => ⟨v', G2, J3.os, J3.bare, J3.base, J3.hok, rv, qv⟩) fun e s' hq => hq)
  have pass := passAt tk τ
  refine wpAny_call (codeAny_mono through fun r s' hq => ?_)
  match r, hq with
  | .error e, hq => exact pass pz G' s1 e s' J1 hq
  | .ok (.ret u), hq => exact J1.after hq
  | .ok .next, hq => exact hq.elim
  | .ok .brk, hq => exact hq.elim
  | .ok .cont, hq => exact hq.elim
/-- the def that calls what it got; TT: what it makes of the lambda's reading -/
def GivesS (X : Cx) (Ng : List Str) (x : Str) (sg : Scope) (g : Addr) (cdg : Value) (bg : List Stmt) (a : Str) (TT : (XK → Hp → VK → Prop) → Hp → VK → Prop) : Prop :=
  ∀ (fl cd : Addr) (s : Shared) (H : Hp) (Q : VK) (tl : XK → Hp → VK → Prop),
    (∀ (W : WX) (pn : List (Addr × Obj)) (xe : Value → Shared → Prop) (p1 p2 : Pos), Takes ((gotCx X Ng x sg g cdg s H).tr pn xe) W →
      PE ((gotCx X Ng x sg g cdg s H).tr pn xe) (.Call (.Name a p1) [] [] p2) (fun τ G Q => τ[0]? = some (some (.ref fl)) ∧ G cd = some (LamX.CodeO cd (lamQ X)) ∧ tl (WE W τ) G Q)) →
    H cd = some (LamX.CodeO cd (lamQ X)) → TT tl H Q →
    ∃ t, PSs (gotCx X Ng x sg g cdg s H).nox bg t ∧ t { nx := fun _ H' => Q .non H', rt := Q } (L2.start Ng [.ref fl]) H
/-- a def of the text that is handed a lambda -/
structure GotFn (K : PySem.W.Frag) (mg : Str → Option Value) (x a : Str) (st : Stmt) (Ng : List Str) (g : Addr) (cdg : Value) : Prop where
  gm : mg x = some (.ref g)
  kp : PySem.W.keepIn K (.ref g) = true
  fn : ∃ (oc : Value) (od : Option Addr) (dV kV doc pm ct : Value) (an : Option Addr) (osl : Array (Option Value)),
    K.lookup g = some ⟨oc, od, .func (PySem.W.fnOf x x (defArgs st) (defBody st) (defScope st) dV kV doc pm an cdg ct), osl⟩ ∧ L2.Binds K (PySem.W.fnOf x x (defArgs st) (defBody st) (defScope st) dV kV doc pm an cdg ct) [a] []
  cd : PySem.W.codeIn K cdg x = true
  sc : FnScope Ng [a] (defScope st)
  n0 : Ng[0]? = some a
  vs : Vis (defScope st) a
theorem pe_lamS {T : List (Addr × Str)} {TT : (XK → Hp → VK → Prop) → Hp → VK → Prop} {x a : Str} {g c P : Addr} {k j : Nat} {st : Stmt} {cdg : Value} {Ng : List Str} {pr : Arguments} {bd : Expr} {sc : Scope} {t : XK → TE} {p lp pos : Pos}
    (G : GotFn X.K X.mg x a st Ng g cdg) (hG : GivesS X Ng x (defScope st) g cdg (defBody st) a TT) (TB : LamX.TabB X.base X.mg c P) (rm : Room j X.A)
    (hbd : ∀ (E : XK) (A : Around) (out : List Env) (s : Shared) (H : Hp) (fl cd : Addr), Room k (A.deeper (LamX.lamEnv X sc s.heap.objs.size fl cd)) → PE (LamX.lamCx X A out s H E sc fl cd) bd (t E))
    (hc : X.env.code = .ref c := by rfl) (hm : (P, lamQ X) ∈ T := by exact List.mem_cons_self) (hu : ∀ p ∈ T, p.1 = P → p.2 = lamQ X := by (intro p hp _; cases List.mem_singleton.mp hp; rfl)) (L : LamX.LamS X.env.scope sc := by exact LamX.lamS_by (by decide +kernel)) (hd : defaultsOf pr X.env = ([], []) := by rfl)
    (hb : ∀ (q : Str) (cl : List (Str × Addr)) (nm cv ctx : Value), bindArgs (PySem.W.kla_fn "<lambda>" q pr bd sc cl nm cv ctx) ⟨[], []⟩ = pure [] := by intros; rfl)
    (hle : k + 2 ≤ j := by decide) (hg : Gl X x := by rfl) (h0 : (x == ("__debug__" : Str)) = false := by decide) (h1 : (a == ("__debug__" : Str)) = false := by decide) (h2 : (a == ("__classdict__" : Str)) = false := by decide) :
    PE X (.Call (.Name x p) [.Lambda pr bd sc lp] [] pos) (LamX.tLam T TT t) := by
  constructor
  intro pins s σ H Q I ⟨hT, h⟩
  obtain ⟨oc, od, dV, kV, doc, pm, ct, an, osl, lk, bnd⟩ := G.fn
  refine wpAny_Call_Name_kw (ld_glob I hg G.gm ?_ h0)
  refine PySem.W.callWith_K (h₀ := X.base) I.ok.mod.kin G.kp ?_ (by rfl) (by rfl)
  show wpAny _ _ (spliced ((false, eval (.Lambda pr bd sc lp) X.env) :: backTo pos (starEach [] X.env))) _ _ s
  refine Calls.spliced_cons (LamX.lam_make2 I TB hc hm hu hT hd (L.has I.ok) fun fl cd nm ctx H1 s1 I1 en T1 ho hn hs hco => Calls.spliced_nil ⟨I1.kIn, ?_⟩)
  have through : codeAny (model X.prog X.w) X.A (.call (.ref g) ⟨[.ref fl], []⟩) (CR C8.CX0 X.stack X.prog X.w H1 s1 Q C8.E0) s1 := by
    refine LamX.run_ofS (k := k + 1) (us := [.ref fl]) (vs := [.ref fl]) lk G.cd G.sc (rm.mono hle) I1.env0 (bnd s1 [.ref fl] I1.kIn rfl) (.cons rfl .nil) rfl fun rm' => ?_
    obtain ⟨t', ps', q'⟩ := hG fl cd s1 H1 Q (fun E G' Q' => t E σ G' Q') (fun W pn xe p1 p2 tk => pe_actS (i := 0) I1 L ho hn hs (hb _ _ _ _ _) tk rm' (fun E A out s H r => hbd E A out s H fl cd r) G.n0 G.vs h1 h2) hco (h H1 en T1)
    exact ⟨t', ps'.nox, q'⟩
  refine wpAny_call (codeAny_mono through fun r s2 hq => ?_)
  match r, hq with
  | .error e, hq => exact (show False from hq).elim
  | .ok (.ret u), hq => exact I1.after hq
  | .ok .next, hq => exact hq.elim
  | .ok .brk, hq => exact hq.elim
  | .ok .cont, hq => exact hq.elim
end


theorem got_of {K : PySem.W.Frag} {mg : Str → Option Value} {x a : Str} {st : Stmt} {Ng : List Str} {g : Addr} {fd : FuncData} (F : Fun K x x st g fd) (gm : mg x = some (.ref g)) (b : Binds K fd [a] []) (sc : FnScope Ng [a] (defScope st)) (n0 : Ng[0]? = some a) (vs : Vis (defScope st) a) : ∃ cdg, GotFn K mg x a st Ng g cdg := by
  obtain ⟨oc, od, kV, doc, pm, an, cdv, ct, osl, rfl, lk, hcd⟩ := F.ex
  exact ⟨cdv, gm, F.kp, ⟨_, _, _, _, _, _, _, _, _, lk, b⟩, hcd, sc, n0, vs⟩
/-! ### calls within a lambda that may raise -/
section
variable {X : Cx} {k j : Nat} {C : Addr} {m x : Str} {ps ks : List Str} {dvs : List V} {sp : Sp} {o e : Expr} {es : List Expr} {ta : TE} {t tk : TA} {apos p pos : Pos} {gV : List V → List V → List V} {kws : List Keyword} {E : XK}
def CalCX (P : Program) (w : World) (K : PySem.W.Frag) (mg : Str → Option Value) (base : Heap) (k : Nat) (x : Str) (C : Addr) (ps : List Str) (dvs : List V) (sp : Sp) : Prop :=
  ∃ (f : Addr) (fd : FuncData) (ds : List Value), Mk K C f ∧ mg x = some (.ref C) ∧ Vals dvs ds ∧ Binds K fd ps ds ∧ FnOk P w K mg base (L2.CX P w) k f fd ps sp
theorem pe_calcX (h : CalCX X.prog X.w X.K X.mg X.base k x C ps dvs sp) (hr : Room j X.A) (tk : Takes X (fun cls d _ H => E cls d H)) (ha : PA X (e :: es) t) (hle : k + 1 ≤ j := by decide) (hg : Gl X x := by rfl)
    (hdb : (x == ("__debug__" : Str)) = false := by decide) (he : starEach (e :: es) X.env = (false, eval e X.env) :: starEach es X.env := by rfl) (hpl : (backTo pos (starEach es X.env)).any (·.1) = false := by rfl) :
    PE X (.Call (.Name x p) (e :: es) [] pos) (tMake C sp dvs E t) := by
  obtain ⟨f, fd, ds, h1, h2, h3, h4, h5⟩ := h
  exact pe_make h1 h5 (hr.mono hle) hg h2 h4 h3 (passes_call tk (fun _ _ _ _ h => h)) ha hdb he hpl
/-- the error passes on out of the lambda -/
theorem takesLam {X : Cx} {A : Around} {outer : List Env} {s : Shared} {H : Hp} {E : XK} {scope : Scope} {f c' : Addr} : Takes (LamX.lamCx X A outer s H E scope f c') (fun cls d _ H => E cls d H) := takes_of rfl rfl rfl rfl
end
/-! ### calls within a lambda that may raise -/
section
variable {X : Cx} {k j n : Nat} {x : Str} {ps ks : List Str} {dvs : List V} {sp : Sp} {e : Expr} {es : List Expr} {t tk : TA} {p pos : Pos} {gV : List V → List V → List V} {kws : List Keyword} {E : XK}
theorem pe_calxL (c : CalX X.prog X.w X.K X.mg X.base k x ps dvs sp) (hr : Room j X.A) (tk : Takes X (fun cls d _ H => E cls d H)) (ha : PA X (e :: es) t) (hle : k ≤ j := by decide) (hg : Gl X x := by rfl) (hdb : (x == ("__debug__" : Str)) = false := by decide)
    (he : starEach (e :: es) X.env = (false, eval e X.env) :: starEach es X.env := by rfl) (hpl : (backTo pos (starEach es X.env)).any (·.1) = false := by rfl) : PE X (.Call (.Name x p) (e :: es) [] pos) (tCall sp dvs E t) := by
  rcases c with ⟨f, fd, ds, at_, kept, dv, bd, ok⟩
  exact pe_call ok (hr.mono hle) hg at_ kept bd dv (passes_call tk fun _ _ _ _ z => z) ha hdb he hpl
theorem pe_calxLk (c : CalXK X.prog X.w X.K X.mg X.base k x ps n ks gV sp) (hr : Room j X.A) (tk' : Takes X (fun cls d _ H => E cls d H)) (ha : PA X (e :: es) t) (hkw : PK X kws tk) (hle : k ≤ j := by decide) (hg : Gl X x := by rfl)
    (hall : (backToKw pos (keywordEach kws X.env)).all (·.1.isSome) = true := by rfl) (hks : (backToKw pos (keywordEach kws X.env)).filterMap (·.1) = ks := by rfl) (hdb : (x == ("__debug__" : Str)) = false := by decide)
    (he : starEach (e :: es) X.env = (false, eval e X.env) :: starEach es X.env := by rfl) (hpl : ((backTo pos (starEach (e :: es) X.env)).any (·.1) || (backToKw pos (keywordEach kws X.env)).any (·.1.isNone)) = false := by rfl) :
    PE X (.Call (.Name x p) (e :: es) kws pos) (tCallN n ks.length sp gV E t tk) := by
  rcases c with ⟨f, fd, g, at_, kept, bd, ok⟩
  exact pe_callN ok (hr.mono hle) hg at_ kept bd (passes_call tk' fun _ _ _ _ z => z) ha hkw hall hks hdb he hpl
theorem pe_calxL0 (c : CalXK X.prog X.w X.K X.mg X.base k x ps 0 ks gV sp) (hr : Room j X.A) (tk' : Takes X (fun cls d _ H => E cls d H)) (hkw : PK X kws tk) (hle : k ≤ j := by decide) (hg : Gl X x := by rfl)
    (hall : (backToKw pos (keywordEach kws X.env)).all (·.1.isSome) = true := by rfl) (hks : (backToKw pos (keywordEach kws X.env)).filterMap (·.1) = ks := by rfl) (hdb : (x == ("__debug__" : Str)) = false := by decide)
    (hpl : ((backTo pos (starEach [] X.env)).any (·.1) || (backToKw pos (keywordEach kws X.env)).any (·.1.isNone)) = false := by rfl) :
    PE X (.Call (.Name x p) [] kws pos) (tCallN 0 ks.length sp gV E tNil tk) := by
  rcases c with ⟨f, fd, g, at_, kept, bd, ok⟩
  constructor
  intro pins s σ H Q I h
  refine wpAny_Call_Name_kw (ld_glob I hg at_ (PySem.W.callWith_KW0 (h₀ := X.base) I.ok.mod.kin kept hall (thn (hkw.run pos pins s σ H _ I h) ?_) hpl) hdb)
  rintro ws s2 ⟨zs, H2, I2, rz, l1, l2, q2⟩
  refine ⟨I2.kIn, ?_⟩
  rw [hks]
  exact run_fnN (vs := []) (us := []) ok (hr.mono hle) bd (passes_call tk' fun _ _ _ _ z => z) I2 .nil rz l1 l2 q2
end

/-! ### heaps without tables -/
def NoT (B : Hp) : Prop := ∀ b ps, B b ≠ some (.tbl ps)
def noT (H : Hp) : Hp := fun b => match H b with
  | some (.tbl _) => none
  | o => o
theorem noT_no (H : Hp) : NoT (noT H) := fun b ps e => by
  unfold noT at e
  split at e
  · cases e
  · rename_i h
    exact h _ e
theorem noT_at {H : Hp} {b : Addr} {o : HO} (e : H b = some o) (n : ∀ ps, o ≠ .tbl ps) : noT H b = some o := by
  unfold noT
  rw [e]
  cases o with
  | tbl ps => exact absurd rfl (n ps)
  | _ => rfl
theorem noT_ext (H : Hp) : LamX.ExtN H (noT H) := fun b o e n => noT_at e n
theorem noT_same (H : Hp) : Same (noT H) H := fun b o e => by
  unfold noT at e
  split at e
  · cases e
  · exact e
theorem NoT.ext {B H H' : Hp} (nb : NoT B) (s : Same B H) (e : LamX.ExtN H H') : Same B H' := fun b o h => e b o (s b o h) fun ps z => nb b ps (by rw [h, z])
theorem NoT.no {B H : Hp} (nb : NoT B) (s : Same B H) : Same B (noT H) := fun b o h => noT_at (s b o h) fun ps z => nb b ps (by rw [h, z])
theorem noT_none {H : Hp} {b : Addr} (e : H b = none) : noT H b = none := by
  unfold noT
  rw [e]
theorem FsAt.ext {C : Addr} {H H' : Hp} {vs : List V} {fs : List FormP} (h : FsAt C H vs fs) (s : LamX.ExtN H H') : FsAt C H' vs fs := by
  induction h with
  | nil => exact .nil
  | cons e _ ih =>
    obtain ⟨⟨dx, ho⟩, h1, h2, h3⟩ := e
    exact .cons ⟨⟨dx, s _ _ ho (fun _ z => nomatch z)⟩, h1, h2, h3⟩ ih
theorem TsAt.ext {H H' : Hp} {vs : List V} {xss : List (List V)} (h : TsAt H vs xss) (s : LamX.ExtN H H') : TsAt H' vs xss := h.mono fun p xs e => s _ _ e (fun _ z => nomatch z)
theorem TL7.ext {H H' : Hp} {a : Addr} {xss : List (List V)} (h : TL7 H a xss) (s : LamX.ExtN H H') : TL7 H' a xss := by
  obtain ⟨vs, e, t⟩ := h
  exact ⟨vs, s _ _ e (fun _ z => nomatch z), t.ext s⟩
theorem NetAt.ext {C CN : Addr} {H H' : Hp} {p : Addr} {n : NetP} (h : NetAt C CN H p n) (s : LamX.ExtN H H') : NetAt C CN H' p n := by
  obtain ⟨o, dx, fl, rl, hl, pl, fv, rv, hv, b⟩ := h
  exact ⟨o, dx, fl, rl, hl, pl, fv, rv, hv, s _ _ b.ob (fun _ z => nomatch z), s _ _ b.fa (fun _ z => nomatch z), b.fs.ext s, s _ _ b.ra (fun _ z => nomatch z), b.rs.ext s, s _ _ b.ha (fun _ z => nomatch z), b.hs.ext s, s _ _ b.pa (fun _ z => nomatch z)⟩
theorem PartsAt.ext {H H' : Hp} {p : Addr} {n : NetP} (h : PartsAt H p n) (s : LamX.ExtN H H') : PartsAt H' p n := by
  obtain ⟨fa, ra, ha, e, h1, h2, h3⟩ := h
  exact ⟨fa, ra, ha, s _ _ e (fun _ z => nomatch z), h1.ext s, h2.ext s, h3.ext s⟩
theorem tabs_but {T : List (Addr × Str)} {a : Addr} {ys : List V} {H H' : Hp} (h : LamX.Tabs T H) (s : SameBut a H H') (ha : H a = some (.lst ys)) : LamX.Tabs T H' := fun p hp => by
  obtain ⟨ps, e, t, c⟩ := h p hp
  refine ⟨ps, s _ _ (fun z => by rw [z, ha] at e; cases e) e, t, fun pos cv e2 => ?_⟩
  obtain ⟨cc, e3, e4⟩ := c pos cv e2
  exact ⟨cc, e3, s _ _ (fun z => by rw [z, ha] at e4; cases e4) e4⟩

/-! ### the def that tells a refusal -/
structure Errs60 (K : PySem.W.Frag) (mg : Str → Option Value) (CE CW CS CM CU : Addr) : Prop where
  gE : mg "EchoError" = some (.ref CE)
  gW : mg "NoWords" = some (.ref CW)
  gS : mg "NoState" = some (.ref CS)
  gM : mg "TooMany" = some (.ref CM)
  gU : mg "Unfit" = some (.ref CU)
  XW : ExcC K CW
  XS : ExcC K CS
  exW : PySem.W.exmOne K (.ref CW) (.ref CE) = some true
  exS : PySem.W.exmOne K (.ref CS) (.ref CE) = some true
  wW : PySem.W.kitOne K (.ref CW) (.ref CW) = some true
  wS : PySem.W.kitOne K (.ref CW) (.ref CS) = some false
  wM : PySem.W.kitOne K (.ref CW) (.ref CM) = some false
  wU : PySem.W.kitOne K (.ref CW) (.ref CU) = some false
  sW : PySem.W.kitOne K (.ref CS) (.ref CW) = some false
  sS : PySem.W.kitOne K (.ref CS) (.ref CS) = some true
  sM : PySem.W.kitOne K (.ref CS) (.ref CM) = some false
  sU : PySem.W.kitOne K (.ref CS) (.ref CU) = some false
def TTref (CW CS : Addr) : (XK → Hp → VK → Prop) → Hp → VK → Prop := fun tl H Q => ∀ (E : XK) (Q' : VK),
  (∀ H', (∀ H'', Same H' H'' → Q (.str "words") H'') → E (.ref CW) none H') →
  (∀ H', (∀ H'', Same H' H'' → Q (.str "state") H'') → E (.ref CS) none H') → tl E H Q'
theorem sc__law_refused : FnScope ["_law_deed", "_law_found", "e", "_law_marks"] ["_law_deed"] (defScope s__law_refused) := ⟨rfl, rfl, rfl, by decide +kernel, rfl, by decide +kernel, by decide +kernel⟩
theorem said_gives {X : Cx} {CE CW CS CM CU : Addr} (XX : Errs60 X.K X.mg CE CW CS CM CU) (zi : X.mg "isinstance" = none) {k : Nat} (hr0 : Room (k + 1) X.A) {g : Addr} {cdg : Value} :
    GivesS X ["_law_deed", "_law_found", "e", "_law_marks"] "_law_refused" (defScope s__law_refused) g cdg (defBody s__law_refused) "_law_deed" (TTref CW CS) := by
  intro fl cd s H Q tl act hc h
  have hr : ∀ env, Room k (X.A.deeper env) := fun env => hr0.deeper env
  refine ⟨_, pss_cons (ps_set (i := 1) sc__law_refused.nd rfl (.inl rfl) pe_non)
    (pss_cons (ps_try_as (X := (gotCx X ["_law_deed", "_law_found", "e", "_law_marks"] "_law_refused" (defScope s__law_refused) g cdg s H).nox) (i := 2) (c := .ref CE) (tb := fun W D σ H => σ[0]? = some (some (.ref fl)) ∧ H cd = some (LamX.CodeO cd (lamQ X)) ∧ tl (WE W σ) H (fun _ H' => D.nx σ H')) (ts := fun a cls d => tSeq (tAsg (tLst (tCons (tCB (rIsX X.K a cls d) (tCons (tVar 2) (tCons (tC (.ref CW)) tNil))) (tCons (tCB (rIsX X.K a cls d) (tCons (tVar 2) (tCons (tC (.ref CS)) tNil))) (tCons (tCB (rIsX X.K a cls d) (tCons (tVar 2) (tCons (tC (.ref CM)) tNil))) (tCons (tCB (rIsX X.K a cls d) (tCons (tVar 2) (tCons (tC (.ref CU)) tNil))) tNil))))) (gName 3)) (tSeq (tIfS (tTest (tOp (rEqD X.K) (tVar 3) (tLst (tCons (tC (.bl true)) (tCons (tC (.bl false)) (tCons (tC (.bl false)) (tCons (tC (.bl false)) tNil))))))) (tAsg (tC (.str "words")) (gName 1)) tNext) (tIfS (tTest (tOp (rEqD X.K) (tVar 3) (tLst (tCons (tC (.bl false)) (tCons (tC (.bl true)) (tCons (tC (.bl false)) (tCons (tC (.bl false)) tNil))))))) (tAsg (tC (.str "state")) (gName 1)) tNext))) rfl rfl sc__law_refused.nd rfl rfl ⟨rfl, by decide, .inl XX.gE⟩ takes0 (fun W pn xe tk _ => pss_one (ps_expr (act W pn xe _ _ tk)))
      (fun a oe cls d pn hz hf => (pss_cons (ps_set (i := 3) sc__law_refused.nd rfl (.inl rfl) (pe_lst (pa_cons (pe_callB (call_isX hz hf) (by rfl) zi (by decide +kernel) (pa_cons (pv 2) (pa_cons (pe_glob (v := .ref CW) (by rfl) XX.gW rfl) pa_nil))) (pa_cons (pe_callB (call_isX hz hf) (by rfl) zi (by decide +kernel) (pa_cons (pv 2) (pa_cons (pe_glob (v := .ref CS) (by rfl) XX.gS rfl) pa_nil))) (pa_cons (pe_callB (call_isX hz hf) (by rfl) zi (by decide +kernel) (pa_cons (pv 2) (pa_cons (pe_glob (v := .ref CM) (by rfl) XX.gM rfl) pa_nil))) (pa_cons (pe_callB (call_isX hz hf) (by rfl) zi (by decide +kernel) (pa_cons (pv 2) (pa_cons (pe_glob (v := .ref CU) (by rfl) XX.gU rfl) pa_nil))) pa_nil))))))
      (pss_cons (ps_if (pt_cmpR (op_eqD (by exact (hr (envOfC "_law_refused" (defScope s__law_refused) s.heap.objs.size g cdg)).units)) (pv 3) (pe_lst (pa_cons pe_bl (pa_cons pe_bl (pa_cons pe_bl (pa_cons pe_bl pa_nil))))) (nomark _)) (pss_one (ps_set (i := 1) sc__law_refused.nd rfl (.inl rfl) pe_str)) pss_nil)
      (pss_one (ps_if (pt_cmpR (op_eqD (by exact (hr (envOfC "_law_refused" (defScope s__law_refused) s.heap.objs.size g cdg)).units)) (pv 3) (pe_lst (pa_cons pe_bl (pa_cons pe_bl (pa_cons pe_bl (pa_cons pe_bl pa_nil))))) (nomark _)) (pss_one (ps_set (i := 1) sc__law_refused.nd rfl (.inl rfl) pe_str)) pss_nil))))))
      (pss_one (ps_ret (pv 1)))), ?_⟩
  refine ⟨rfl, hc, ?_⟩
  refine h _ _ (fun H1 q => ⟨true, XX.exW, fun _ a ha => ?_, fun z => nomatch z⟩) (fun H1 q => ⟨true, XX.exS, fun _ a ha => ?_, fun z => nomatch z⟩)
  · refine ⟨_, rfl, CW, _, _, true, rfl, XX.XW, rfl, (fun u h => h), (fun dd e => nomatch e), XX.wW, _, rfl, CW, _, _, false, rfl, XX.XW, rfl, (fun u h => h), (fun dd e => nomatch e), XX.wS, _, rfl, CW, _, _, false, rfl, XX.XW, rfl, (fun u h => h), (fun dd e => nomatch e), XX.wM, _, rfl, CW, _, _, false, rfl, XX.XW, rfl, (fun u h => h), (fun dd e => nomatch e), XX.wU, (by show 4 ≤ sizeLine; decide), fun l2 hl2 => ?_⟩
    have s2 := same_new (o := .lst [.bl true, .bl false, .bl false, .bl false]) hl2
    refine ⟨_, rfl, (by show 4 ≤ sizeLine; decide), fun l3 hl3 => ?_⟩
    have s3 := same_new (o := .lst [.bl true, .bl false, .bl false, .bl false]) hl3
    refine ⟨.list [.bool true, .bool false, .bool false, .bool false], .list [.bool true, .bool false, .bool false, .bool false], .lst (SqL.of (s3 _ _ upd_same)) (.cons (.bl _) (.cons (.bl _) (.cons (.bl _) (.cons (.bl _) .nil)))), .lst (SqL.of upd_same) (.cons (.bl _) (.cons (.bl _) (.cons (.bl _) (.cons (.bl _) .nil)))), (by decide +kernel), (by decide +kernel), _, rfl, ?_⟩
    refine iteC (c := PyData.eqv (.list [.bool true, .bool false, .bool false, .bool false]) (.list [.bool true, .bool false, .bool false, .bool false])) (d := true) (by decide +kernel) (iteT ?_)
    refine ⟨_, rfl, (by show 4 ≤ sizeLine; decide), fun l5 hl5 => ?_⟩
    have s5 := same_new (o := .lst [.bl false, .bl true, .bl false, .bl false]) hl5
    refine ⟨.list [.bool true, .bool false, .bool false, .bool false], .list [.bool false, .bool true, .bool false, .bool false], .lst (SqL.of (s5 _ _ (s3 _ _ upd_same))) (.cons (.bl _) (.cons (.bl _) (.cons (.bl _) (.cons (.bl _) .nil)))), .lst (SqL.of upd_same) (.cons (.bl _) (.cons (.bl _) (.cons (.bl _) (.cons (.bl _) .nil)))), (by decide +kernel), (by decide +kernel), _, rfl, ?_⟩
    refine iteC (c := PyData.eqv (.list [.bool true, .bool false, .bool false, .bool false]) (.list [.bool false, .bool true, .bool false, .bool false])) (d := false) (by decide +kernel) (iteF ?_)
    exact ⟨_, rfl, q _ (s2.trans (s3.trans s5))⟩
  · refine ⟨_, rfl, CS, _, _, false, rfl, XX.XS, rfl, (fun u h => h), (fun dd e => nomatch e), XX.sW, _, rfl, CS, _, _, true, rfl, XX.XS, rfl, (fun u h => h), (fun dd e => nomatch e), XX.sS, _, rfl, CS, _, _, false, rfl, XX.XS, rfl, (fun u h => h), (fun dd e => nomatch e), XX.sM, _, rfl, CS, _, _, false, rfl, XX.XS, rfl, (fun u h => h), (fun dd e => nomatch e), XX.sU, (by show 4 ≤ sizeLine; decide), fun l2 hl2 => ?_⟩
    have s2 := same_new (o := .lst [.bl false, .bl true, .bl false, .bl false]) hl2
    refine ⟨_, rfl, (by show 4 ≤ sizeLine; decide), fun l3 hl3 => ?_⟩
    have s3 := same_new (o := .lst [.bl true, .bl false, .bl false, .bl false]) hl3
    refine ⟨.list [.bool false, .bool true, .bool false, .bool false], .list [.bool true, .bool false, .bool false, .bool false], .lst (SqL.of (s3 _ _ upd_same)) (.cons (.bl _) (.cons (.bl _) (.cons (.bl _) (.cons (.bl _) .nil)))), .lst (SqL.of upd_same) (.cons (.bl _) (.cons (.bl _) (.cons (.bl _) (.cons (.bl _) .nil)))), (by decide +kernel), (by decide +kernel), _, rfl, ?_⟩
    refine iteC (c := PyData.eqv (.list [.bool false, .bool true, .bool false, .bool false]) (.list [.bool true, .bool false, .bool false, .bool false])) (d := false) (by decide +kernel) (iteF ?_)
    refine ⟨_, rfl, (by show 4 ≤ sizeLine; decide), fun l5 hl5 => ?_⟩
    have s5 := same_new (o := .lst [.bl false, .bl true, .bl false, .bl false]) hl5
    refine ⟨.list [.bool false, .bool true, .bool false, .bool false], .list [.bool false, .bool true, .bool false, .bool false], .lst (SqL.of (s5 _ _ (s3 _ _ upd_same))) (.cons (.bl _) (.cons (.bl _) (.cons (.bl _) (.cons (.bl _) .nil)))), .lst (SqL.of upd_same) (.cons (.bl _) (.cons (.bl _) (.cons (.bl _) (.cons (.bl _) .nil)))), (by decide +kernel), (by decide +kernel), _, rfl, ?_⟩
    refine iteC (c := PyData.eqv (.list [.bool false, .bool true, .bool false, .bool false]) (.list [.bool false, .bool true, .bool false, .bool false])) (d := true) (by decide +kernel) (iteT ?_)
    exact ⟨_, rfl, q _ (s2.trans (s3.trans s5))⟩
end E1

namespace E1
open PySem PySem.Spec PyProof.Rows L2

theorem min_max {a b : Int} {P : Int → Prop} (ha : P a) (hb : P b) : P (minI a b) ∧ P (maxI a b) ∧ minI a b ≤ maxI a b := by
  unfold minI maxI
  refine ⟨?_, ?_, ?_⟩
  · split
    · exact hb
    · exact ha
  · split
    · exact hb
    · exact ha
  · split <;> split <;> omega

abbrev lawQ : Str := (envOfC "law" (defScope s_law) 0 0 .none).qual ++ "<lambda>"
def T60 (Pt : Addr) : List (Addr × Str) := [(Pt, lawQ)]
theorem hu_law {Pt : Addr} : ∀ p ∈ T60 Pt, p.1 = Pt → p.2 = lawQ := fun p hp _ => by rw [List.mem_singleton.mp hp]
def spLaw60 (K : PySem.W.Frag) (Pt : Addr) : Sp := fun vs H Q _ => ∃ (a : Addr) (ns : List Int), vs = [.ref a] ∧ SqL K H a (ns.map V.int) ∧ ns.length ≤ 63 ∧ LamX.Tabs (T60 Pt) H ∧ ∀ H', Q (.bl true) H'
theorem dpi60 {K : PySem.W.Frag} {H : Hp} : ∀ l : List Nat, DpAll K H (l.map nI) ((l.map fun k : Nat => (k : Int)).map PyData.int)
  | [] => .nil
  | _ :: l => .cons (.int _) (dpi60 l)
theorem eqv60 (l : List Int) : PyData.eqv (.list (l.map PyData.int)) (.list (l.map PyData.int)) = true := by
  refine SeqAt.eqv_refl _ ?_
  have := PySem.W.ke_shaped_ints l
  unfold SeqAt.shaped at this
  rw [Bool.and_eq_true] at this
  exact this.1
theorem int_shaped (i : Int) : SeqAt.shaped (.int i) = true := by
  unfold SeqAt.shaped
  simp [PyData.canLay0, PyData.depth]
theorem int_eqv {i : Int} (h : i ≠ 20) : PyData.eqv (.int i) (.int 20) = false := by
  simp [PyData.eqv, h]
/-- what the law holds in hand: a heap that stands still, and its tables -/
structure Bag60 (B : Hp) (T : List (Addr × Str)) (H : Hp) : Prop where
  bs : Same B H
  t : LamX.Tabs T H
theorem Bag60.same {B : Hp} {T : List (Addr × Str)} {H H' : Hp} (g : Bag60 B T H) (s : Same H H') : Bag60 B T H' := ⟨g.bs.trans s, LamX.Tabs.ext g.t s⟩
theorem Bag60.ext {B : Hp} {T : List (Addr × Str)} {H H' : Hp} (g : Bag60 B T H) (nb : NoT B) (s : LamX.ExtN H H') (t : LamX.Tabs T H') : Bag60 B T H' := ⟨nb.ext g.bs s, t⟩
theorem three_of {P : V → Prop} {x y z : V} (hx : P x) (hy : P y) (hz : P z) {i : Nat} {v : V} (e : [x, y, z][i]? = some v) : P v := by
  match i with
  | 0 => cases e; exact hx
  | 1 => cases e; exact hy
  | 2 => cases e; exact hz
  | i + 3 => cases e
def Thing (B : Hp) (v : V) : Prop := ∃ b, BxAt B v b ∧ ∀ os, b = some os → os.length ≤ 1000 ∧ BdO 440200 os
theorem BdO.mono {k j : Nat} {os : List (Option Sp2)} (h : BdO k os) (l : k ≤ j) : BdO j os := BdS.mono h l
theorem isBx_some {n : NetP} {x : Sp2} {b : Option (List (Option Sp2))} (h : isBx n x b = true) : ∃ os, b = some os := by
  cases b with
  | none => cases h
  | some os => exact ⟨os, rfl⟩
section
variable {P : Program} {w : World} {K : PySem.W.Frag} {mg : Str → Option Value} {base : Heap}
theorem sc_law : FnScope ["_law_script", "_law_parts", "_law_points_here", "_law_well_here", "_law_form_here", "_law_due", "_law_told", "_law_may", "_law_highest", "_law_hold_list", "_law_house", "_law_lowest", "_law_many", "_law_one", "_law_other", "_law_some"] ["_law_script"] (defScope s_law) := ⟨rfl, rfl, rfl, by decide +kernel, rfl, by decide +kernel, by decide +kernel⟩
theorem qg1 {as : Addr} {y1 y10 : Option V} : (List.set (List.set (L2.start ["_law_script", "_law_parts", "_law_points_here", "_law_well_here", "_law_form_here", "_law_due", "_law_told", "_law_may", "_law_highest", "_law_hold_list", "_law_house", "_law_lowest", "_law_many", "_law_one", "_law_other", "_law_some"] [V.ref as]) 1 y1) 10 y10) = [some (V.ref as), y1, none, none, none, none, none, none, none, none, y10, none, none, none, none, none] := rfl
theorem qg2 {x0 x1 x2 x3 x4 x5 x6 x7 x8 x9 x10 x11 x12 x13 x14 x15 : Option V} {y2 y3 : Option V} : (List.set (List.set [x0, x1, x2, x3, x4, x5, x6, x7, x8, x9, x10, x11, x12, x13, x14, x15] 2 y2) 3 y3) = [x0, x1, y2, y3, x4, x5, x6, x7, x8, x9, x10, x11, x12, x13, x14, x15] := rfl
theorem qg3 {x0 x1 x2 x3 x4 x5 x6 x7 x8 x9 x10 x11 x12 x13 x14 x15 : Option V} {y4 y11 y8 : Option V} : (List.set (List.set (List.set [x0, x1, x2, x3, x4, x5, x6, x7, x8, x9, x10, x11, x12, x13, x14, x15] 4 y4) 11 y11) 8 y8) = [x0, x1, x2, x3, y4, x5, x6, x7, y8, x9, x10, y11, x12, x13, x14, x15] := rfl
theorem qg4 {x0 x1 x2 x3 x4 x5 x6 x7 x8 x9 x10 x11 x12 x13 x14 x15 : Option V} {y9 : Option V} : (List.set [x0, x1, x2, x3, x4, x5, x6, x7, x8, x9, x10, x11, x12, x13, x14, x15] 9 y9) = [x0, x1, x2, x3, x4, x5, x6, x7, x8, y9, x10, x11, x12, x13, x14, x15] := rfl
theorem ok_law {f : Addr} {fd : FuncData} {C CN CE CW CS CM CU c Pt gT : Addr} {fdT : FuncData} (F : FunC K "law" s_law f fd c) (z : Zs mg) (XX : Errs60 K mg CE CW CS CM CU) (TB : LamX.TabB base mg c Pt) (FT : Fun K "_law_refused" "_law_refused" s__law_refused gT fdT) (gm : mg "_law_refused" = some (.ref gT)) (bT : Binds K fdT ["_law_deed"] []) (c__law_cell_at : Cal P w K mg base 1 "_law_cell_at" ["_law_script", "_law_k"] (spCell K)) (c__law_well : Cal P w K mg base 1 "_law_well" ["_law_cell"] spWell) (c__law_net : Cal P w K mg base 3 "_law_net" ["_law_well_here"] spLNet) (c__law_made : Cal P w K mg base 8 "_law_made" ["_law_house"] (spLMade C CN)) (c__law_points : Cal P w K mg base 1 "_law_points" ["_law_house"] spLPts) (c__law_word : Cal P w K mg base 2 "_law_word" ["_law_well_here", "_law_form_here"] spLWord) (c__law_all : Cal P w K mg base 1 "_law_all" ["_law_parts"] spLAll) (c__law_start_box : Cal P w K mg base 11 "_law_start_box" ["_law_house", "_law_parts", "_law_lowest", "_law_highest"] (spLStart C CN)) (c__law_forged : Cal P w K mg base 2 "_law_forged" ["_law_well_here", "_law_parts", "_law_hold_list"] spLForged) (c__law_is_box : Cal P w K mg base 5 "_law_is_box" ["_law_parts", "_law_points_here", "_law_entered", "_law_hold_list"] spLIsBox) (c__law_may_over : Cal P w K mg base 5 "_law_may_over" ["_law_parts", "_law_points_here", "_law_entered", "_law_hold_list"] spLMay) (c__law_bad_words : Cal P w K mg base 2 "_law_bad_words" ["_law_well_here", "_law_form_here"] spLBadW) (c_is_box : Cal P w K mg base 10 "is_box" ["net", "low", "high", "holds"] (spIsBox6 C CN)) (c_may_over_0_holds_high_low_net : CalK P w K mg base 11 "may_over" ["net", "low", "high", "holds"] 0 ["holds", "high", "low", "net"] (fun vs zs => vs ++ zs.reverse) (spMay6 C CN)) (cx_may_over : CalX P w K mg base 11 "may_over" ["net", "low", "high", "holds"] [] (spMayX K C CN CS CW)) (cx_is_box : CalX P w K mg base 10 "is_box" ["net", "low", "high", "holds"] [] (spIsBoxX K C CN CW)) (cx_box : CalX P w K mg base 10 "box" ["net", "low", "high", "many"] [] (spBoxX6 K C CN CW)) : FnOk P w K mg base CX0 14 f fd ["_law_script"] (spLaw60 K Pt) := by
  obtain ⟨cdg, GT⟩ := got_of (Ng := ["_law_deed", "_law_found", "e", "_law_marks"]) FT gm bT sc__law_refused rfl (.inl rfl)
  refine F.ok sc_law (fun vs H Q E h => ?_) (fun A outer s H vs Q E hr h => ?_)
  · obtain ⟨a, ns, rfl, _⟩ := h
    rfl
  · obtain ⟨as, ns, rfl, hS, hlen, T0, q⟩ := h
    refine ⟨_, (pss_cons (ps_set (i := 1) sc_law.nd rfl (.inl rfl) (pe_cal c__law_net hr (pa_cons (pe_cal c__law_well hr (pa_cons (pe_cal c__law_cell_at hr (pa_cons (pv 0) (pa_cons pe_int pa_nil))) pa_nil)) pa_nil)))
      (pss_cons (ps_set (i := 10) sc_law.nd rfl (.inr rfl) (pe_cal c__law_made hr (pa_cons (pv 1) pa_nil)))
      (pss_cons (ps_set (i := 2) sc_law.nd rfl (.inl rfl) (pe_cal c__law_points hr (pa_cons (pv 1) pa_nil)))
      (pss_cons (ps_set (i := 3) sc_law.nd rfl (.inl rfl) (pe_cal c__law_well hr (pa_cons (pe_cal c__law_cell_at hr (pa_cons (pv 0) (pa_cons pe_int pa_nil))) pa_nil)))
      (pss_cons (ps_set (i := 4) sc_law.nd rfl (.inl rfl) (pe_ix ix_list (pe_ix ix_tup (pv 1) pe_int (fun _ _ => rfl)) (pe_ix ix_tup (pv 1) pe_int (fun _ _ => rfl)) (fun _ _ => rfl)))
      (pss_cons (ps_asg (pe_callB cr_sorted (by rfl) z.sorted (by decide +kernel) (pa_cons (pe_lst (pa_cons (pe_cal c__law_word hr (pa_cons (pv 3) (pa_cons (pv 4) pa_nil))) (pa_cons (pe_cal c__law_word hr (pa_cons (pv 3) (pa_cons (pv 4) pa_nil))) pa_nil))) pa_nil)) (pg_lst rfl (pgs_cons (pg_name (i := 11) sc_law.nd rfl (.inr rfl)) (pgs_cons (pg_name (i := 8) sc_law.nd rfl (.inr rfl)) pgs_nil))))
      (pss_cons (ps_set (i := 9) sc_law.nd rfl (.inr rfl) (pe_cal c__law_start_box hr (pa_cons (pv 10) (pa_cons (pv 1) (pa_cons (pv 11) (pa_cons (pv 8) pa_nil))))))
      (pss_cons (ps_set (i := 3) sc_law.nd rfl (.inl rfl) (pe_cal c__law_well hr (pa_cons (pe_cal c__law_cell_at hr (pa_cons (pv 0) (pa_cons pe_int pa_nil))) pa_nil)))
      (C8.pss_cut (ps_for PassesOwn.never rfl (pi_list (pe_lst (pa_cons (pv 9) (pa_cons (pe_cal c__law_forged hr (pa_cons (pv 3) (pa_cons (pv 1) (pa_cons (pv 9) pa_nil)))) (pa_cons (pe_cal c__law_forged hr (pa_cons (pv 3) (pa_cons (pv 1) (pa_cons (pe_cal c__law_all hr (pa_cons (pv 1) pa_nil)) pa_nil)))) pa_nil))))) (pg_name (i := 15) sc_law.nd rfl (.inr rfl)) (pss_cons (ps_set (i := 5) sc_law.nd rfl (.inl rfl) (pe_cal c__law_is_box hr (pa_cons (pv 1) (pa_cons (pv 2) (pa_cons (pe_tup (pa_cons (pv 11) (pa_cons (pv 8) pa_nil))) (pa_cons (pv 15) pa_nil))))))
      (pss_cons (ps_set (i := 6) sc_law.nd rfl (.inl rfl) (pe_cal c_is_box hr (pa_cons (pv 10) (pa_cons (pv 11) (pa_cons (pv 8) (pa_cons (pv 15) pa_nil))))))
      (pss_cons (ps_if (PW.pt (pw_or (pt_not (pt_val (pe_callB call_isi (by rfl) z.isinstance (by decide +kernel) (pa_cons (pv 6) (pa_cons (pe_bltn (v := .ty "bool") (by rfl) z.bool (by decide +kernel) rfl) pa_nil))))) (pw_or1 (pt_cmpR op_ne (pv 6) (pv 5) (nomark _))))) (pss_one (ps_ret pe_bl)) pss_nil)
      (C8.pss_cut (ps_if (pt_val (pv 5)) (pss_cons (ps_set (i := 7) sc_law.nd rfl (.inl rfl) (pe_calk0 c_may_over_0_holds_high_low_net hr (pk_cons (pe_callTy call_list_of (by rfl) z.list (by decide +kernel) (pa_cons (pv 15) pa_nil)) (pk_cons (pv 8) (pk_cons (pv 11) (pk_cons (pv 10) pk_nil))))))
      (pss_one (ps_if (pt_cmpR (op_neD hr.units) (pv 7) (pe_cal c__law_may_over hr (pa_cons (pv 1) (pa_cons (pv 2) (pa_cons (pe_tup (pa_cons (pv 11) (pa_cons (pv 8) pa_nil))) (pa_cons (pv 15) pa_nil))))) (nomark _)) (pss_one (ps_ret pe_bl)) pss_nil))) pss_nil)
      (pss_one (ps_if (PW.pt (pw_and (pt_not (pt_val (pv 5))) (pw_and1 (pt_cmpR op_ne (pe_lamS (T := T60 Pt) (t := fun E => tCall (spMayX K C CN CS CW) [] E (tCons (tVar 10) (tCons (tVar 11) (tCons (tVar 8) (tCons (tVar 15) tNil))))) (k := 11) (L := LamX.lamS_by (by show LamX.lamSB (defScope s_law) _ = true; decide +kernel)) GT (said_gives XX z.isinstance hr) TB hr (fun E A out s H fl cd rm => by exact (pe_calxL cx_may_over rm takesLam (pa_cons (pv 10) (pa_cons (pv 11) (pa_cons (pv 8) (pa_cons (pv 15) pa_nil)))))) (hm := List.mem_cons_self) (hu := hu_law)) pe_str (nomark _))))) (pss_one (ps_ret pe_bl)) pss_nil)))))))
      (pss_cons (ps_asg (pe_cal c__law_bad_words hr (pa_cons (pv 3) (pa_cons (pv 4) pa_nil))) (pg_tup (by rfl) (pgs_cons (pg_name (i := 13) sc_law.nd rfl (.inr rfl)) (pgs_cons (pg_name (i := 14) sc_law.nd rfl (.inr rfl)) (pgs_cons (pg_name (i := 12) sc_law.nd rfl (.inr rfl)) pgs_nil)))))
      (pss_cons (ps_if (pt_cmpR op_ne (pe_lamS (T := T60 Pt) (t := fun E => tCall (spBoxX6 K C CN CW) [] E (tCons (tVar 10) (tCons (tVar 13) (tCons (tVar 14) (tCons (tVar 12) tNil))))) (k := 11) (L := LamX.lamS_by (by show LamX.lamSB (defScope s_law) _ = true; decide +kernel)) GT (said_gives XX z.isinstance hr) TB hr (fun E A out s H fl cd rm => by exact (pe_calxL cx_box rm takesLam (pa_cons (pv 10) (pa_cons (pv 13) (pa_cons (pv 14) (pa_cons (pv 12) pa_nil)))))) (hm := List.mem_cons_self) (hu := hu_law)) pe_str (nomark _)) (pss_one (ps_ret pe_bl)) pss_nil)
      (pss_cons (ps_if (pt_cmpR (op_eqD hr.units) (pv 12) pe_int (nomark _)) (pss_cons (ps_if (pt_cmpR op_ne (pe_lamS (T := T60 Pt) (t := fun E => tCall (spIsBoxX K C CN CW) [] E (tCons (tVar 10) (tCons (tVar 13) (tCons (tVar 14) (tCons (tVar 9) tNil))))) (k := 11) (L := LamX.lamS_by (by show LamX.lamSB (defScope s_law) _ = true; decide +kernel)) GT (said_gives XX z.isinstance hr) TB hr (fun E A out s H fl cd rm => by exact (pe_calxL cx_is_box rm takesLam (pa_cons (pv 10) (pa_cons (pv 13) (pa_cons (pv 14) (pa_cons (pv 9) pa_nil)))))) (hm := List.mem_cons_self) (hu := hu_law)) pe_str (nomark _)) (pss_one (ps_ret pe_bl)) pss_nil)
      (pss_one (ps_ret (pe_cmpR op_eq (pe_lamS (T := T60 Pt) (t := fun E => tCall (spMayX K C CN CS CW) [] E (tCons (tVar 10) (tCons (tVar 13) (tCons (tVar 14) (tCons (tC .non) tNil))))) (k := 11) (L := LamX.lamS_by (by show LamX.lamSB (defScope s_law) _ = true; decide +kernel)) GT (said_gives XX z.isinstance hr) TB hr (fun E A out s H fl cd rm => by exact (pe_calxL cx_may_over rm takesLam (pa_cons (pv 10) (pa_cons (pv 13) (pa_cons (pv 14) (pa_cons pe_non pa_nil)))))) (hm := List.mem_cons_self) (hu := hu_law)) pe_str (nomark _))))) pss_nil)
      (pss_one (ps_ret pe_bl)))))))))))))), ?_⟩
    refine ⟨_, rfl, as, ns, 0, rfl, hS, _, rfl, fun a ha0 H1 s1 k1 => ?_⟩
    refine ⟨a, rfl, k1.mono (by decide), fun n pa H2 nok hst mild l26 k2 sb2 npa hppA => ?_⟩
    have hpp := hppA H2 (.refl _ _)
    have S2 : Same H H2 := same_but s1 sb2 ha0
    clear s1 k1 k2 sb2 hppA npa ha0
    have szs : ∀ k ∈ starts n, k.natAbs < 2 ^ 70 := fun k hk => by
      unfold starts at hk
      obtain ⟨h2, hm, rfl⟩ := List.mem_map.mp hk
      exact hst h2 hm
    refine ⟨_, rfl, pa, n, rfl, hpp, nok, fun p1 H3 s3 hn => ?_⟩
    refine ⟨_, rfl, pa, n, rfl, hpp.same s3, nok, fun pl H4 s4 hpl0 hpl => ?_⟩
    rw [qg1]
    replace hpp := hpp.same (s3.trans s4)
    replace hn := hn.same s4
    have S4 : Same H H4 := S2.trans (s3.trans s4)
    have T4 := LamX.Tabs.ext T0 S4
    clear S2 s3 s4 hpl0 T0
    obtain ⟨fa, ra, ha, hpa, ⟨fv, hfa, tf⟩, ⟨rv, hra, tr⟩, ⟨hv, hha, th⟩⟩ := id hpp
    have h6 := nok.h2
    refine ⟨_, rfl, as, ns, 1, rfl, Same.sqL S4 hS, _, rfl, fun a ha5 H5 s5 k5 => ?_⟩
    have ef := List.getElem?_eq_getElem nok.en
    have efr := frm_at ef
    obtain ⟨fp, ep, hfp⟩ := tf.at (i := n.en) (xs := (frm n.fs n.en).vs) (by rw [List.getElem?_map, ef, efr]; rfl)
    have fo : (frm n.fs n.en).Ok := by
      rw [efr]
      exact nok.fo _ (List.getElem_mem nok.en)
    have hfp5 := s5 _ _ hfp
    refine ⟨_, rfl, pa, _, 0, .ref fa, rfl, rfl, SqT.of (s5 _ _ hpa), a0, _, rfl, pa, _, 1, .int n.en, rfl, rfl, SqT.of (s5 _ _ hpa), a1, fa, _, _, .ref fp, rfl, rfl, SqL.of (s5 _ _ hfa), atI_nat ep, ?_⟩
    rw [qg2]
    refine ⟨_, rfl, _, rfl, a, fp, frm n.fs n.en, 0, rfl, hfp5, fo, k5, by omega, by omega, fun x1 H6 in1 z1 sb6 w6 => ?_⟩
    obtain ⟨gx5, hgx5⟩ := k5.lst
    have nfa : fp ≠ a := ne_of hfp5 hgx5 (fun z => nomatch z)
    refine ⟨_, rfl, _, rfl, a, fp, frm n.fs n.en, 0 + 5, rfl, sb6 _ _ nfa hfp5, fo, w6, by omega, by omega, fun x2 H7 in2 z2 sb7 w7 => ?_⟩
    refine ⟨(by show 2 ≤ sizeLine; decide), fun l hl => ?_⟩
    generalize hG8 : upd _ l _ = H8
    obtain ⟨s8, h_l⟩ := upd_gen hG8 hl
    refine ⟨l, [x1, x2], rfl, SqL.of h_l, (by show 2 < 64; decide), fun ns2 l2 hperm hsort hl2 => ?_⟩
    generalize hG9 : upd _ l2 _ = H9
    obtain ⟨s9, h_l2⟩ := upd_gen hG9 hl2
    rw [two_mm hperm hsort] at h_l2
    obtain ⟨lo, elo⟩ : ∃ k, k = minI x1 x2 := ⟨_, rfl⟩
    obtain ⟨hi, ehi⟩ : ∃ k, k = maxI x1 x2 := ⟨_, rfl⟩
    rw [← elo, ← ehi] at h_l2
    obtain ⟨i1, i2, le⟩ := min_max (P := fun k => inR (frm n.fs n.en).w k = true ∧ k.natAbs < 2 ^ 70) ⟨in1, z1⟩ ⟨in2, z2⟩
    rw [← elo] at i1 le
    rw [← ehi] at i2 le
    refine ⟨l2, _, rfl, SqL.of h_l2, rfl, _, _, rfl, _, _, rfl, rfl, ?_⟩
    have S9 : Same H4 H9 := (same_but s5 (sb6.trans sb7) ha5).trans (s8.trans s9)
    clear sb6 sb7 s8 s9 w6 w7 k5 s5 h_l h_l2 hl hl2 hperm hsort in1 in2 z1 z2 hfp5 hgx5 nfa ha5
    obtain ⟨z1, i1⟩ := And.symm i1
    obtain ⟨z2, i2⟩ := And.symm i2
    refine ⟨_, rfl, _, rfl, _, rfl, _, rfl, p1, pa, n, lo, hi, rfl, hn.same S9, hpp.same S9, l26, i1, i2, le, z1, z2, szs, fun L lv held H10 L0 s10 h_L tL lL bL => ?_⟩
    have S10 := S9.trans s10
    clear S9 s10 L0
    rw [qg3]
    refine ⟨_, rfl, as, ns, 2, rfl, Same.sqL (S4.trans S10) hS, _, rfl, fun a ha11 H11 s11 k11 => ?_⟩
    rw [qg4]
    have S11 := S10.trans s11
    have nLa : L ≠ a := ne_of_none h_L ha11
    replace h_L := s11 _ _ h_L
    replace tL := tL.same s11
    have a4 : H4 a = none := S10.free ha11
    clear S10 s11 ha11
    refine ⟨fun σ G => ∃ (y5 y6 y7 y15 : Option V) (B : Hp), σ = [some (.ref as), some (.ref pa), some (.ref pl), some (.ref a), some (.ref fp), y5, y6, y7, some (.int hi), some (.ref L), some (.ref p1), some (.int lo), none, none, none, y15] ∧ NoT B ∧ Same (noT H4) B ∧ WellAt B a 20 ∧ Bag60 B (T60 Pt) G, ?_, fun σ G hM => ?_⟩
    · refine ⟨_, rfl, _, rfl, _, rfl, _, rfl, H4, a, pa, L, n, held, lv, 440000, 0, rfl, S11, a4, hpp, nok, h_L, tL, nLa, lL, bL, by decide, k11, by omega, by omega, fun x1 b1 H12 sb12 w12 bx12 bo12 => ?_⟩
      have S12 := same_but S11 sb12 a4
      refine ⟨_, rfl, _, rfl, _, rfl, pa, n, rfl, hpp.same S12, nok, fun L2 lv2 held2 H13 L20 s13 h_L2 tL2 lL2 bL2 => ?_⟩
      have S13 := S12.trans s13
      have n2 : L2 ≠ a := w12.ne L20
      refine ⟨H4, a, pa, L2, n, held2, lv2, 110, 0 + 6, rfl, S13, a4, hpp, nok, h_L2, tL2, n2, lL2, bL2, by decide, w12.same s13, by omega, by omega, fun x2 b2 H14 sb14 w14 bx14 bo14 => ?_⟩
      refine ⟨(by show 3 ≤ sizeLine; decide), fun ls hls => ?_⟩
      generalize hG15 : upd _ ls _ = G15
      obtain ⟨s15, h_ls⟩ := upd_gen hG15 hls
      have SS : Same H4 G15 := (same_but S13 sb14 a4).trans s15
      obtain ⟨g11, hg11⟩ := k11.lst
      obtain ⟨g12, hg12⟩ := w12.lst
      obtain ⟨g13, hg13⟩ := (w12.same s13).lst
      obtain ⟨g14, hg14⟩ := w14.lst
      have hg15 := s15 _ _ hg14
      have BB := fun (v : V) (h : Thing G15 v) => (show Thing (noT G15) v from by
        obtain ⟨b, h1, h2⟩ := h
        exact ⟨b, h1.ext (noT_ext G15), h2⟩)
      have th0 : Thing G15 (.ref L) := ⟨some (held.map some), ⟨L, lv, rfl, s15 _ _ (sb14 _ _ nLa (s13 _ _ (sb12 _ _ nLa h_L))), (((((tL.but sb12 hg11).same s13).but sb14 hg13).same s15)).ot⟩, fun os e => by
        cases e
        exact ⟨by rw [List.length_map]; omega, .of (bL.mono (by decide))⟩⟩
      have th1 : Thing G15 x1 := ⟨b1, bx12.go ((SameBut.of s13).trans (sb14.trans (.of s15))) hg12 hg15, fun os e => ⟨(bo12 os e).1, (bo12 os e).2.mono (by decide)⟩⟩
      have th2 : Thing G15 x2 := ⟨b2, bx14.go (.of s15) hg14 hg15, fun os e => ⟨(bo14 os e).1, (bo14 os e).2.mono (by decide)⟩⟩
      replace th0 := BB _ th0
      replace th1 := BB _ th1
      replace th2 := BB _ th2
      have w15 := w14.same s15
      have T15 := LamX.Tabs.ext T4 SS
      have nb := noT_no G15
      have bs0 := noT_same G15
      have hn0 := (hn.same SS).ext (noT_ext G15)
      have hpp0 := (hpp.same SS).ext (noT_ext G15)
      have hpl0 := noT_ext G15 _ _ (SS _ _ hpl) (fun _ z => nomatch z)
      have h_ls0 := noT_ext G15 _ _ h_ls (fun _ z => nomatch z)
      have S0 : Same (noT H4) (noT G15) := (noT_no H4).no ((noT_same H4).trans SS)
      have w0 : WellAt (noT G15) a 20 := by
        obtain ⟨x, y, z, hw, h1, h2, h3, h4⟩ := w15
        exact ⟨x, y, z, noT_ext G15 _ _ hw (fun _ z => nomatch z), h1, h2, h3, by omega⟩
      clear sb12 s13 sb14 s15 bx12 bx14 bo12 bo14 hls hG15 S12 S13 hg11 hg12 hg13 hg14 hg15 BB h_L tL h_L2 tL2 w12 w14 k11 w15 S11 L20 bL bL2 hn hpp hpa hfa tf hra tr hha th hS T4
      refine ⟨ls, rfl, ⟨_, SqL.of h_ls⟩, ?_⟩
      clear h_ls
      have bg : Bag60 (noT G15) (T60 Pt) G15 := ⟨bs0, T15⟩
      clear bs0 T15
      generalize noT G15 = B at *
      refine for_it (walk_list (K := K) (a := ls) (xs := [V.ref L, x1, x2])) (fun i σ G => ∃ y5 y6 y7 y15 : Option V, σ = [some (.ref as), some (.ref pa), some (.ref pl), some (.ref a), some (.ref fp), y5, y6, y7, some (.int hi), some (.ref L), some (.ref p1), some (.int lo), none, none, none, y15] ∧ Bag60 B (T60 Pt) G) ⟨none, none, none, none, rfl, bg⟩ (fun i σ G _ hP => ?_) (fun i v σ G G' hil hP hY => ?_) (fun σ G hP => ?_)
      · obtain ⟨y5, y6, y7, y15, rfl, bg⟩ := hP
        exact SqL.of (bg.bs _ _ h_ls0)
      · obtain ⟨y5, y6, y7, y15, rfl, bg⟩ := hP
        obtain ⟨rfl, e1⟩ := hY
        obtain ⟨b, bx, bo⟩ := three_of (P := Thing B) th0 th1 th2 e1
        have zz : lo.natAbs < 2 ^ 440200 ∧ hi.natAbs < 2 ^ 440200 := ⟨up z1 (by decide), up z2 (by decide)⟩
        refine ⟨_, rfl, _, rfl, _, rfl, _, rfl, (by show 2 ≤ sizeLine; decide), fun xa hxa => ?_⟩
        generalize hG16 : upd _ xa _ = G16
        obtain ⟨s16, h_xa⟩ := upd_gen hG16 hxa
        replace bg := bg.same s16
        refine ⟨_, rfl, pa, pl, xa, n, (lo, hi), v, b, 440200, rfl, hpp0.same bg.bs, nok, l26, bg.bs _ _ hpl0, h_xa, bx.same bg.bs, bo, by decide, by decide, zz, fun H17 s17 => ?_⟩
        replace bg := bg.same s17
        refine ⟨_, rfl, _, rfl, _, rfl, _, rfl, p1, n, lo, hi, v, b, 440200, rfl, hn0.same bg.bs, l26, i1, i2, le, z1, z2, bx.same bg.bs, bo, by decide, by decide, fun H18 s18 => ?_⟩
        replace bg := bg.same s18
        clear s16 s17 s18 hxa h_xa hG16
        refine ⟨_, rfl, _, .ty "bool", _, _, true, rfl, .ty _, .base (.bl _), kit_ty (by decide +kernel), _, rfl, iteF ⟨_, rfl, _, rfl, rfl, _, rfl, iteC (d := false) (by rw [decide_eq_true rfl]; rfl) (iteF ?_)⟩⟩
        refine ⟨fun σ G => ∃ y7 : Option V, σ = [some (.ref as), some (.ref pa), some (.ref pl), some (.ref a), some (.ref fp), some (.bl (isBx n (lo, hi) b)), some (.bl (isBx n (lo, hi) b)), y7, some (.int hi), some (.ref L), some (.ref p1), some (.int lo), none, none, none, some v] ∧ Bag60 B (T60 Pt) G, ?_, fun σ G hM => ?_⟩
        · refine ⟨_, rfl, _, rfl, ?_⟩
          cases eb : isBx n (lo, hi) b with
          | false => exact iteF ⟨_, rfl, bg⟩
          | true =>
            obtain ⟨os, rfl⟩ := isBx_some eb
            obtain ⟨hl2, hv2, rfl, hh2, ot2⟩ := id bx
            refine iteT ⟨_, rfl, hl2, _, rfl, .inl (SqL.of (bg.bs _ _ hh2)), fun c3 hc3 => ?_⟩
            generalize hG3 : upd _ c3 _ = G3
            obtain ⟨s3, h_c3⟩ := upd_gen hG3 hc3
            replace bg := bg.same s3
            refine ⟨_, rfl, _, rfl, _, rfl, rfl, rfl, p1, n, lo, hi, .ref c3, os, 440200, rfl, hn0.same bg.bs, l26, i1, i2, le, z1, z2, ⟨c3, hv2, rfl, h_c3, ot2.same bg.bs⟩, eb, (bo os rfl).2, by decide, by decide, fun m1 H19 m10 s19 h_m1 => ?_⟩
            replace bg := bg.same s19
            refine ⟨_, rfl, _, rfl, _, rfl, _, rfl, _, rfl, (by show 2 ≤ sizeLine; decide), fun xb hxb => ?_⟩
            generalize hG20 : upd _ xb _ = G20
            obtain ⟨s20, h_xb⟩ := upd_gen hG20 hxb
            replace bg := bg.same s20
            refine ⟨_, rfl, pa, pl, xb, n, (lo, hi), .ref hl2, os, 440200, rfl, hpp0.same bg.bs, nok, l26, bg.bs _ _ hpl0, h_xb, bx.same bg.bs, eb, (bo os rfl).2, by decide, by decide, zz, fun m2 H21 m20 s21 h_m2 => ?_⟩
            replace bg := bg.same s21
            refine ⟨.list (((mayF n (lo, hi) (downL os)).map fun k : Nat => (k : Int)).map PyData.int), .list (((mayF n (lo, hi) (downL os)).map fun k : Nat => (k : Int)).map PyData.int), .lst (SqL.of (s21 _ _ (s20 _ _ h_m1))) (dpi60 _), .lst (SqL.of h_m2) (dpi60 _), PySem.W.ke_shaped_ints _, PySem.W.ke_shaped_ints _, _, rfl, ?_⟩
            exact iteC (d := false) (by rw [eqv60]; rfl) (iteF ⟨_, rfl, bg⟩)
        obtain ⟨y7, rfl, bg⟩ := hM
        refine ⟨_, rfl, _, rfl, ?_⟩
        cases eb : isBx n (lo, hi) b with
        | true => exact iteF ⟨_, _, _, _, rfl, bg⟩
        | false =>
          refine iteT ⟨bg.t, fun K1 e1 U1 E' Q' hw hs => ?_⟩
          have b1 := bg.ext nb e1 U1
          refine ⟨_, rfl, _, rfl, _, rfl, _, rfl, p1, n, .int lo, .int hi, v, rfl, hn0.same b1.bs, .inl ⟨lo, hi, b, 440200, rfl, rfl, l26, i1, i2, le, z1, z2, bx.same b1.bs, bo, by decide, by decide, eb, fun K2 s2 => hs K2 fun K3 s3 => ?_⟩⟩
          exact ⟨rfl, _, rfl, iteC (d := false) (by decide) (iteF ⟨_, _, _, _, rfl, (b1.same s2).same s3⟩)⟩
      · obtain ⟨y5, y6, y7, y15, rfl, bg⟩ := hP
        exact ⟨_, _, _, _, B, rfl, nb, S0, w0, bg⟩
    obtain ⟨y5, y6, y7, y15, B, rfl, nb, S0, w0, bg⟩ := hM
    have nb0 := noT_no H4
    have hn0 := hn.ext (noT_ext H4)
    have hfp0 := noT_ext H4 _ _ hfp (fun _ z => nomatch z)
    have a40 := noT_none a4
    have SG := S0.trans bg.bs
    have wG := w0.same bg.bs
    clear S11 k11 h_L tL bL hpp hpa hfa tf hra tr hha th hS hpl
    refine ⟨_, rfl, _, rfl, a, fp, frm n.fs n.en, 20, rfl, SG _ _ hfp0, fo, wG, by omega, by omega, fun t x y m H16 hb sb16 w16 ht => ?_⟩
    obtain ⟨gg, hgg⟩ := wG.lst
    have bg2 : Bag60 (noT H4) (T60 Pt) H16 := ⟨same_but SG sb16 a40, tabs_but bg.t sb16 hgg⟩
    clear bg nb w0 wG sb16 w16 hgg S0 SG
    generalize noT H4 = B0 at *
    refine ⟨t, _, rfl, SqT.of ht, rfl, _, _, rfl, _, _, rfl, _, _, rfl, rfl, ?_⟩
    clear ht
    rcases hb with ⟨rfl, hb⟩ | ⟨hm, lo2, hi2, rfl, rfl, j1, j2, jle⟩
    · refine ⟨bg2.t, fun K1 e1 U1 E' Q' hw hs => ?_⟩
      have b1 := bg2.ext nb0 e1 U1
      refine ⟨_, rfl, _, rfl, _, rfl, _, rfl, p1, n, x, y, .int 20, rfl, hn0.same b1.bs, .inl ⟨hb.no, fun K2 s2 => hw K2 fun K3 s3 => ?_⟩⟩
      refine ⟨rfl, _, rfl, iteC (d := false) (by decide) (iteF ?_)⟩
      have b3 := (b1.same s2).same s3
      clear b1 bg2 hw hs e1 U1 s2 s3
      refine ⟨_, rfl, .int 20, .int 20, .int _, .int _, (by decide +kernel), (by decide +kernel), _, rfl, iteC (d := true) (by decide +kernel) (iteT ?_)⟩
      refine ⟨b3.t, fun K4 e4 U4 E4 Q4 hw hs => ?_⟩
      have b4 := b3.ext nb0 e4 U4
      refine ⟨_, rfl, _, rfl, _, rfl, _, rfl, .inr ⟨p1, n, x, y, .ref L, rfl, hn0.same b4.bs, hb.no, fun K5 s5 => hw K5 fun K6 s6 => ?_⟩⟩
      refine ⟨rfl, _, rfl, iteC (d := false) (by decide) (iteF ?_)⟩
      have b6 := (b4.same s5).same s6
      clear b3 b4 hw hs e4 U4 s5 s6
      refine ⟨b6.t, fun K7 e7 U7 E7 Q7 hw hs => ?_⟩
      have b7 := b6.ext nb0 e7 U7
      refine ⟨_, rfl, _, rfl, _, rfl, p1, n, x, y, .non, rfl, hn0.same b7.bs, .inr ⟨hb.no, fun K8 s8 => hw K8 fun K9 s9 => ?_⟩⟩
      exact ⟨rfl, q _⟩
    · refine ⟨bg2.t, fun K1 e1 U1 E' Q' hw hs => ?_⟩
      have b1 := bg2.ext nb0 e1 U1
      refine ⟨_, rfl, _, rfl, _, rfl, _, rfl, p1, n, _, _, m, rfl, hn0.same b1.bs, .inr ⟨lo2, hi2, rfl, rfl, j1, j2, jle, hm.no, fun K2 s2 => hw K2 fun K3 s3 => ?_⟩⟩
      refine ⟨rfl, _, rfl, iteC (d := false) (by decide) (iteF ?_)⟩
      rcases hm with ⟨i, rfl, hi3⟩ | rfl | ⟨b, rfl⟩
      · exact ⟨_, rfl, .int i, .int 20, .int _, .int _, int_shaped i, (by decide +kernel), _, rfl, iteC (d := false) (int_eqv (by omega)) (iteF (q _))⟩
      · exact ⟨_, rfl, .none, .int 20, .non, .int _, (by decide +kernel), (by decide +kernel), _, rfl, iteC (d := false) (by decide +kernel) (iteF (q _))⟩
      · cases b <;> exact ⟨_, rfl, .bool _, .int 20, .bl _, .int _, (by decide +kernel), (by decide +kernel), _, rfl, iteC (d := false) (by decide +kernel) (iteF (q _))⟩
end
end E1

namespace E1
open PySem PySem.Spec PyProof.Rows L2
theorem all_mk {l : PySem.W.OpenLaw} {w : World} {K : PySem.W.Frag} {h : Heap} {mg : Str → Option Value} {fa : Addr} {C : Addr} {CN : Addr} {CE : Addr} {CW : Addr} {CS : Addr} {CU : Addr} {CM : Addr} {A_ENDS : Addr} {A_MANNERS : Addr} {A_POINT_RULES : Addr} {A_ROW_LENGTHS : Addr} (e_C : He.ga K "Form" = C) (e_CN : He.ga K "Net" = CN) (e_CE : He.ga K "EchoError" = CE) (e_CW : He.ga K "NoWords" = CW) (e_CS : He.ga K "NoState" = CS) (e_CU : He.ga K "Unfit" = CU) (e_CM : He.ga K "TooMany" = CM) (e_A_ENDS : He.ga K "ENDS" = A_ENDS) (e_A_MANNERS : He.ga K "MANNERS" = A_MANNERS) (e_A_POINT_RULES : He.ga K "POINT_RULES" = A_POINT_RULES) (e_A_ROW_LENGTHS : He.ga K "ROW_LENGTHS" = A_ROW_LENGTHS) (X : K.In h) (G : h.Ns mainGlobals mg) (hfa : mg "law" = some (.ref fa)) (hfile : (l.prog.main.file : Str) = "/claim/cut.py") (htop : (l.prog.main.scope.names.lookup ("super" : Str)).isSome = false) (c : SaysY FA FN TS TF EXB ER w h K) :
    LamX.LawAtS l w K CX0 14 63 "_law_script" mg fa h := by
  obtain ⟨fd_is_whole, F0_is_whole⟩ := c.t.d.def_ 0 (d := dd_is_whole) rfl
  have F_is_whole : Fun K "is_whole" "is_whole" s_is_whole (He.ga K "is_whole") fd_is_whole := fun_of F0_is_whole
  have k_is_whole := F_is_whole.kp
  have a_is_whole : PySem.W.nsIn K mainGlobals "is_whole" = some (some (.ref (He.ga K "is_whole"))) := He.eqO_ok (c.t.d.fact 0 (f := .glo "is_whole") rfl)
  have b_is_whole := F_is_whole.binds (ps := ["thing"]) fun _ _ _ _ _ _ us hl => match us, hl with | [_], _ => rfl
  obtain ⟨fd_downward, F0_downward⟩ := c.t.d.def_ 1 (d := dd_downward) rfl
  have F_downward : Fun K "downward" "downward" s_downward (He.ga K "downward") fd_downward := fun_of F0_downward
  have k_downward := F_downward.kp
  have a_downward : PySem.W.nsIn K mainGlobals "downward" = some (some (.ref (He.ga K "downward"))) := He.eqO_ok (c.t.d.fact 1 (f := .glo "downward") rfl)
  have b_downward := F_downward.binds (ps := ["top", "bottom"]) fun _ _ _ _ _ _ us hl => match us, hl with | [_, _], _ => rfl
  obtain ⟨fd_upward, F0_upward⟩ := c.t.d.def_ 2 (d := dd_upward) rfl
  have F_upward : Fun K "upward" "upward" s_upward (He.ga K "upward") fd_upward := fun_of F0_upward
  have k_upward := F_upward.kp
  have a_upward : PySem.W.nsIn K mainGlobals "upward" = some (some (.ref (He.ga K "upward"))) := He.eqO_ok (c.t.d.fact 2 (f := .glo "upward") rfl)
  have b_upward := F_upward.binds (ps := ["top", "bottom"]) fun _ _ _ _ _ _ us hl => match us, hl with | [_, _], _ => rfl
  obtain ⟨fd_inward, F0_inward⟩ := c.t.d.def_ 3 (d := dd_inward) rfl
  have F_inward : Fun K "inward" "inward" s_inward (He.ga K "inward") fd_inward := fun_of F0_inward
  have k_inward := F_inward.kp
  have a_inward : PySem.W.nsIn K mainGlobals "inward" = some (some (.ref (He.ga K "inward"))) := He.eqO_ok (c.t.d.fact 3 (f := .glo "inward") rfl)
  have b_inward := F_inward.binds (ps := ["top", "bottom"]) fun _ _ _ _ _ _ us hl => match us, hl with | [_, _], _ => rfl
  obtain ⟨fd_outward, F0_outward⟩ := c.t.d.def_ 4 (d := dd_outward) rfl
  have F_outward : Fun K "outward" "outward" s_outward (He.ga K "outward") fd_outward := fun_of F0_outward
  have k_outward := F_outward.kp
  have a_outward : PySem.W.nsIn K mainGlobals "outward" = some (some (.ref (He.ga K "outward"))) := He.eqO_ok (c.t.d.fact 4 (f := .glo "outward") rfl)
  have b_outward := F_outward.binds (ps := ["top", "bottom"]) fun _ _ _ _ _ _ us hl => match us, hl with | [_, _], _ => rfl
  obtain ⟨fd_nearest_greater, F0_nearest_greater⟩ := c.t.d.def_ 5 (d := dd_nearest_greater) rfl
  have F_nearest_greater : Fun K "nearest_greater" "nearest_greater" s_nearest_greater (He.ga K "nearest_greater") fd_nearest_greater := fun_of F0_nearest_greater
  have k_nearest_greater := F_nearest_greater.kp
  have a_nearest_greater : PySem.W.nsIn K mainGlobals "nearest_greater" = some (some (.ref (He.ga K "nearest_greater"))) := He.eqO_ok (c.t.d.fact 5 (f := .glo "nearest_greater") rfl)
  have b_nearest_greater := F_nearest_greater.binds (ps := ["top", "bottom"]) fun _ _ _ _ _ _ us hl => match us, hl with | [_, _], _ => rfl
  obtain ⟨fd_nearest_even, F0_nearest_even⟩ := c.t.d.def_ 6 (d := dd_nearest_even) rfl
  have F_nearest_even : Fun K "nearest_even" "nearest_even" s_nearest_even (He.ga K "nearest_even") fd_nearest_even := fun_of F0_nearest_even
  have k_nearest_even := F_nearest_even.kp
  have a_nearest_even : PySem.W.nsIn K mainGlobals "nearest_even" = some (some (.ref (He.ga K "nearest_even"))) := He.eqO_ok (c.t.d.fact 6 (f := .glo "nearest_even") rfl)
  have b_nearest_even := F_nearest_even.binds (ps := ["top", "bottom"]) fun _ _ _ _ _ _ us hl => match us, hl with | [_, _], _ => rfl
  obtain ⟨fd_nearest_far, F0_nearest_far⟩ := c.t.d.def_ 7 (d := dd_nearest_far) rfl
  have F_nearest_far : Fun K "nearest_far" "nearest_far" s_nearest_far (He.ga K "nearest_far") fd_nearest_far := fun_of F0_nearest_far
  have k_nearest_far := F_nearest_far.kp
  have a_nearest_far : PySem.W.nsIn K mainGlobals "nearest_far" = some (some (.ref (He.ga K "nearest_far"))) := He.eqO_ok (c.t.d.fact 7 (f := .glo "nearest_far") rfl)
  have b_nearest_far := F_nearest_far.binds (ps := ["top", "bottom"]) fun _ _ _ _ _ _ us hl => match us, hl with | [_, _], _ => rfl
  obtain ⟨fd_is_manner, F0_is_manner⟩ := c.t.d.def_ 8 (d := dd_is_manner) rfl
  have F_is_manner : Fun K "is_manner" "is_manner" s_is_manner (He.ga K "is_manner") fd_is_manner := fun_of F0_is_manner
  have k_is_manner := F_is_manner.kp
  have a_is_manner : PySem.W.nsIn K mainGlobals "is_manner" = some (some (.ref (He.ga K "is_manner"))) := He.eqO_ok (c.t.d.fact 8 (f := .glo "is_manner") rfl)
  have b_is_manner := F_is_manner.binds (ps := ["thing"]) fun _ _ _ _ _ _ us hl => match us, hl with | [_], _ => rfl
  obtain ⟨fd_rounded, F0_rounded⟩ := c.t.d.def_ 9 (d := dd_rounded) rfl
  have F_rounded : FunD K "rounded" "rounded" (defArgs s_rounded) (defBody s_rounded) (defScope s_rounded) [V.str "half"] [] (He.ga K "rounded") fd_rounded := F0_rounded
  have k_rounded := F_rounded.kp
  have a_rounded : PySem.W.nsIn K mainGlobals "rounded" = some (some (.ref (He.ga K "rounded"))) := He.eqO_ok (c.t.d.fact 9 (f := .glo "rounded") rfl)
  obtain ⟨ds_rounded, dv_rounded, b_rounded⟩ := F_rounded.binds1 (ps := ["value", "manner"]) 2 1 (by simp) rfl fun _ _ _ _ _ _ _ us its h1 h2 => match us, its, h1, h2 with | [_, _], [_], _, _ => ⟨_, rfl, rfl⟩
  cases dv_rounded
  obtain ⟨fd_is_width, F0_is_width⟩ := c.t.d.def_ 10 (d := dd_is_width) rfl
  have F_is_width : Fun K "is_width" "is_width" s_is_width (He.ga K "is_width") fd_is_width := fun_of F0_is_width
  have k_is_width := F_is_width.kp
  have a_is_width : PySem.W.nsIn K mainGlobals "is_width" = some (some (.ref (He.ga K "is_width"))) := He.eqO_ok (c.t.d.fact 10 (f := .glo "is_width") rfl)
  have b_is_width := F_is_width.binds (ps := ["thing"]) fun _ _ _ _ _ _ us hl => match us, hl with | [_], _ => rfl
  obtain ⟨fd_is_point, F0_is_point⟩ := c.t.d.def_ 11 (d := dd_is_point) rfl
  have F_is_point : Fun K "is_point" "is_point" s_is_point (He.ga K "is_point") fd_is_point := fun_of F0_is_point
  have k_is_point := F_is_point.kp
  have a_is_point : PySem.W.nsIn K mainGlobals "is_point" = some (some (.ref (He.ga K "is_point"))) := He.eqO_ok (c.t.d.fact 11 (f := .glo "is_point") rfl)
  have b_is_point := F_is_point.binds (ps := ["thing"]) fun _ _ _ _ _ _ us hl => match us, hl with | [_], _ => rfl
  obtain ⟨fd_is_ends, F0_is_ends⟩ := c.t.d.def_ 12 (d := dd_is_ends) rfl
  have F_is_ends : Fun K "is_ends" "is_ends" s_is_ends (He.ga K "is_ends") fd_is_ends := fun_of F0_is_ends
  have k_is_ends := F_is_ends.kp
  have a_is_ends : PySem.W.nsIn K mainGlobals "is_ends" = some (some (.ref (He.ga K "is_ends"))) := He.eqO_ok (c.t.d.fact 12 (f := .glo "is_ends") rfl)
  have b_is_ends := F_is_ends.binds (ps := ["thing"]) fun _ _ _ _ _ _ us hl => match us, hl with | [_], _ => rfl
  obtain ⟨fd_is_place, F0_is_place⟩ := c.t.d.def_ 13 (d := dd_is_place) rfl
  have F_is_place : Fun K "is_place" "is_place" s_is_place (He.ga K "is_place") fd_is_place := fun_of F0_is_place
  have k_is_place := F_is_place.kp
  have a_is_place : PySem.W.nsIn K mainGlobals "is_place" = some (some (.ref (He.ga K "is_place"))) := He.eqO_ok (c.t.d.fact 13 (f := .glo "is_place") rfl)
  have b_is_place := F_is_place.binds (ps := ["thing", "many"]) fun _ _ _ _ _ _ us hl => match us, hl with | [_, _], _ => rfl
  obtain ⟨fd_is_factor, F0_is_factor⟩ := c.t.d.def_ 14 (d := dd_is_factor) rfl
  have F_is_factor : Fun K "is_factor" "is_factor" s_is_factor (He.ga K "is_factor") fd_is_factor := fun_of F0_is_factor
  have k_is_factor := F_is_factor.kp
  have a_is_factor : PySem.W.nsIn K mainGlobals "is_factor" = some (some (.ref (He.ga K "is_factor"))) := He.eqO_ok (c.t.d.fact 14 (f := .glo "is_factor") rfl)
  have b_is_factor := F_is_factor.binds (ps := ["thing"]) fun _ _ _ _ _ _ us hl => match us, hl with | [_], _ => rfl
  obtain ⟨fd_in_point, F0_in_point⟩ := c.t.d.def_ 15 (d := dd_in_point) rfl
  have F_in_point : Fun K "in_point" "in_point" s_in_point (He.ga K "in_point") fd_in_point := fun_of F0_in_point
  have k_in_point := F_in_point.kp
  have a_in_point : PySem.W.nsIn K mainGlobals "in_point" = some (some (.ref (He.ga K "in_point"))) := He.eqO_ok (c.t.d.fact 15 (f := .glo "in_point") rfl)
  have b_in_point := F_in_point.binds (ps := ["row", "points", "given"]) fun _ _ _ _ _ _ us hl => match us, hl with | [_, _, _], _ => rfl
  obtain ⟨fd_old_point, F0_old_point⟩ := c.t.d.def_ 16 (d := dd_old_point) rfl
  have F_old_point : Fun K "old_point" "old_point" s_old_point (He.ga K "old_point") fd_old_point := fun_of F0_old_point
  have k_old_point := F_old_point.kp
  have a_old_point : PySem.W.nsIn K mainGlobals "old_point" = some (some (.ref (He.ga K "old_point"))) := He.eqO_ok (c.t.d.fact 16 (f := .glo "old_point") rfl)
  have b_old_point := F_old_point.binds (ps := ["row", "points", "given"]) fun _ _ _ _ _ _ us hl => match us, hl with | [_, _, _], _ => rfl
  obtain ⟨fd_times_point, F0_times_point⟩ := c.t.d.def_ 17 (d := dd_times_point) rfl
  have F_times_point : Fun K "times_point" "times_point" s_times_point (He.ga K "times_point") fd_times_point := fun_of F0_times_point
  have k_times_point := F_times_point.kp
  have a_times_point : PySem.W.nsIn K mainGlobals "times_point" = some (some (.ref (He.ga K "times_point"))) := He.eqO_ok (c.t.d.fact 17 (f := .glo "times_point") rfl)
  have b_times_point := F_times_point.binds (ps := ["row", "points", "given"]) fun _ _ _ _ _ _ us hl => match us, hl with | [_, _, _], _ => rfl
  obtain ⟨fd_sum_point, F0_sum_point⟩ := c.t.d.def_ 18 (d := dd_sum_point) rfl
  have F_sum_point : Fun K "sum_point" "sum_point" s_sum_point (He.ga K "sum_point") fd_sum_point := fun_of F0_sum_point
  have k_sum_point := F_sum_point.kp
  have a_sum_point : PySem.W.nsIn K mainGlobals "sum_point" = some (some (.ref (He.ga K "sum_point"))) := He.eqO_ok (c.t.d.fact 18 (f := .glo "sum_point") rfl)
  have b_sum_point := F_sum_point.binds (ps := ["row", "points", "given"]) fun _ _ _ _ _ _ us hl => match us, hl with | [_, _, _], _ => rfl
  obtain ⟨fd_move_point, F0_move_point⟩ := c.t.d.def_ 19 (d := dd_move_point) rfl
  have F_move_point : Fun K "move_point" "move_point" s_move_point (He.ga K "move_point") fd_move_point := fun_of F0_move_point
  have k_move_point := F_move_point.kp
  have a_move_point : PySem.W.nsIn K mainGlobals "move_point" = some (some (.ref (He.ga K "move_point"))) := He.eqO_ok (c.t.d.fact 19 (f := .glo "move_point") rfl)
  have b_move_point := F_move_point.binds (ps := ["row", "points", "given"]) fun _ _ _ _ _ _ us hl => match us, hl with | [_, _, _], _ => rfl
  obtain ⟨fd_keep_point, F0_keep_point⟩ := c.t.d.def_ 20 (d := dd_keep_point) rfl
  have F_keep_point : Fun K "keep_point" "keep_point" s_keep_point (He.ga K "keep_point") fd_keep_point := fun_of F0_keep_point
  have k_keep_point := F_keep_point.kp
  have a_keep_point : PySem.W.nsIn K mainGlobals "keep_point" = some (some (.ref (He.ga K "keep_point"))) := He.eqO_ok (c.t.d.fact 20 (f := .glo "keep_point") rfl)
  have b_keep_point := F_keep_point.binds (ps := ["row", "points", "given"]) fun _ _ _ _ _ _ us hl => match us, hl with | [_, _, _], _ => rfl
  obtain ⟨fd_is_written_as_row, F0_is_written_as_row⟩ := c.t.d.def_ 21 (d := dd_is_written_as_row) rfl
  have F_is_written_as_row : Fun K "is_written_as_row" "is_written_as_row" s_is_written_as_row (He.ga K "is_written_as_row") fd_is_written_as_row := fun_of F0_is_written_as_row
  have k_is_written_as_row := F_is_written_as_row.kp
  have a_is_written_as_row : PySem.W.nsIn K mainGlobals "is_written_as_row" = some (some (.ref (He.ga K "is_written_as_row"))) := He.eqO_ok (c.t.d.fact 21 (f := .glo "is_written_as_row") rfl)
  have b_is_written_as_row := F_is_written_as_row.binds (ps := ["thing"]) fun _ _ _ _ _ _ us hl => match us, hl with | [_], _ => rfl
  obtain ⟨fd_row_point, F0_row_point⟩ := c.t.d.def_ 22 (d := dd_row_point) rfl
  have F_row_point : Fun K "row_point" "row_point" s_row_point (He.ga K "row_point") fd_row_point := fun_of F0_row_point
  have k_row_point := F_row_point.kp
  have a_row_point : PySem.W.nsIn K mainGlobals "row_point" = some (some (.ref (He.ga K "row_point"))) := He.eqO_ok (c.t.d.fact 22 (f := .glo "row_point") rfl)
  have b_row_point := F_row_point.binds (ps := ["row", "points", "given"]) fun _ _ _ _ _ _ us hl => match us, hl with | [_, _, _], _ => rfl
  obtain ⟨fd_check_length, F0_check_length⟩ := c.t.d.def_ 23 (d := dd_check_length) rfl
  have F_check_length : Fun K "check_length" "check_length" s_check_length (He.ga K "check_length") fd_check_length := fun_of F0_check_length
  have k_check_length := F_check_length.kp
  have a_check_length : PySem.W.nsIn K mainGlobals "check_length" = some (some (.ref (He.ga K "check_length"))) := He.eqO_ok (c.t.d.fact 23 (f := .glo "check_length") rfl)
  have b_check_length := F_check_length.binds (ps := ["thing", "part", "least", "most"]) fun _ _ _ _ _ _ us hl => match us, hl with | [_, _, _, _], _ => rfl
  obtain ⟨fd_check_forms, F0_check_forms⟩ := c.t.d.def_ 24 (d := dd_check_forms) rfl
  have F_check_forms : Fun K "check_forms" "check_forms" s_check_forms (He.ga K "check_forms") fd_check_forms := fun_of F0_check_forms
  have k_check_forms := F_check_forms.kp
  have a_check_forms : PySem.W.nsIn K mainGlobals "check_forms" = some (some (.ref (He.ga K "check_forms"))) := He.eqO_ok (c.t.d.fact 24 (f := .glo "check_forms") rfl)
  have b_check_forms := F_check_forms.binds (ps := ["forms"]) fun _ _ _ _ _ _ us hl => match us, hl with | [_], _ => rfl
  obtain ⟨fd_is_hold, F0_is_hold⟩ := c.t.d.def_ 25 (d := dd_is_hold) rfl
  have F_is_hold : Fun K "is_hold" "is_hold" s_is_hold (He.ga K "is_hold") fd_is_hold := fun_of F0_is_hold
  have k_is_hold := F_is_hold.kp
  have a_is_hold : PySem.W.nsIn K mainGlobals "is_hold" = some (some (.ref (He.ga K "is_hold"))) := He.eqO_ok (c.t.d.fact 25 (f := .glo "is_hold") rfl)
  have b_is_hold := F_is_hold.binds (ps := ["thing", "forms"]) fun _ _ _ _ _ _ us hl => match us, hl with | [_, _], _ => rfl
  obtain ⟨fd_check_holds, F0_check_holds⟩ := c.t.d.def_ 26 (d := dd_check_holds) rfl
  have F_check_holds : Fun K "check_holds" "check_holds" s_check_holds (He.ga K "check_holds") fd_check_holds := fun_of F0_check_holds
  have k_check_holds := F_check_holds.kp
  have a_check_holds : PySem.W.nsIn K mainGlobals "check_holds" = some (some (.ref (He.ga K "check_holds"))) := He.eqO_ok (c.t.d.fact 26 (f := .glo "check_holds") rfl)
  have b_check_holds := F_check_holds.binds (ps := ["holds", "forms"]) fun _ _ _ _ _ _ us hl => match us, hl with | [_, _], _ => rfl
  obtain ⟨fd_checked_points, F0_checked_points⟩ := c.t.d.def_ 27 (d := dd_checked_points) rfl
  have F_checked_points : Fun K "checked_points" "checked_points" s_checked_points (He.ga K "checked_points") fd_checked_points := fun_of F0_checked_points
  have k_checked_points := F_checked_points.kp
  have a_checked_points : PySem.W.nsIn K mainGlobals "checked_points" = some (some (.ref (He.ga K "checked_points"))) := He.eqO_ok (c.t.d.fact 27 (f := .glo "checked_points") rfl)
  have b_checked_points := F_checked_points.binds (ps := ["rows", "given"]) fun _ _ _ _ _ _ us hl => match us, hl with | [_, _], _ => rfl
  obtain ⟨fd_check_links, F0_check_links⟩ := c.t.d.def_ 28 (d := dd_check_links) rfl
  have F_check_links : Fun K "check_links" "check_links" s_check_links (He.ga K "check_links") fd_check_links := fun_of F0_check_links
  have k_check_links := F_check_links.kp
  have a_check_links : PySem.W.nsIn K mainGlobals "check_links" = some (some (.ref (He.ga K "check_links"))) := He.eqO_ok (c.t.d.fact 28 (f := .glo "check_links") rfl)
  have b_check_links := F_check_links.binds (ps := ["holds", "rows"]) fun _ _ _ _ _ _ us hl => match us, hl with | [_, _], _ => rfl
  obtain ⟨fd_enter_form, F0_enter_form⟩ := c.t.d.def_ 29 (d := dd_enter_form) rfl
  have F_enter_form : Fun K "enter_form" "enter_form" s_enter_form (He.ga K "enter_form") fd_enter_form := fun_of F0_enter_form
  have k_enter_form := F_enter_form.kp
  have a_enter_form : PySem.W.nsIn K mainGlobals "enter_form" = some (some (.ref (He.ga K "enter_form"))) := He.eqO_ok (c.t.d.fact 29 (f := .glo "enter_form") rfl)
  have b_enter_form := F_enter_form.binds (ps := ["net"]) fun _ _ _ _ _ _ us hl => match us, hl with | [_], _ => rfl
  obtain ⟨fd_swept, F0_swept⟩ := c.t.d.def_ 30 (d := dd_swept) rfl
  have F_swept : Fun K "swept" "swept" s_swept (He.ga K "swept") fd_swept := fun_of F0_swept
  have k_swept := F_swept.kp
  have a_swept : PySem.W.nsIn K mainGlobals "swept" = some (some (.ref (He.ga K "swept"))) := He.eqO_ok (c.t.d.fact 30 (f := .glo "swept") rfl)
  have b_swept := F_swept.binds (ps := ["net", "heard", "held", "rule"]) fun _ _ _ _ _ _ us hl => match us, hl with | [_, _, _, _], _ => rfl
  obtain ⟨fd_check_ends, F0_check_ends⟩ := c.t.d.def_ 31 (d := dd_check_ends) rfl
  have F_check_ends : Fun K "check_ends" "check_ends" s_check_ends (He.ga K "check_ends") fd_check_ends := fun_of F0_check_ends
  have k_check_ends := F_check_ends.kp
  have a_check_ends : PySem.W.nsIn K mainGlobals "check_ends" = some (some (.ref (He.ga K "check_ends"))) := He.eqO_ok (c.t.d.fact 31 (f := .glo "check_ends") rfl)
  have b_check_ends := F_check_ends.binds (ps := ["net", "low", "high"]) fun _ _ _ _ _ _ us hl => match us, hl with | [_, _, _], _ => rfl
  obtain ⟨fd_has_in_it, F0_has_in_it⟩ := c.t.d.def_ 32 (d := dd_has_in_it) rfl
  have F_has_in_it : Fun K "has_in_it" "has_in_it" s_has_in_it (He.ga K "has_in_it") fd_has_in_it := fun_of F0_has_in_it
  have k_has_in_it := F_has_in_it.kp
  have a_has_in_it : PySem.W.nsIn K mainGlobals "has_in_it" = some (some (.ref (He.ga K "has_in_it"))) := He.eqO_ok (c.t.d.fact 32 (f := .glo "has_in_it") rfl)
  have b_has_in_it := F_has_in_it.binds (ps := ["stretch", "other"]) fun _ _ _ _ _ _ us hl => match us, hl with | [_, _], _ => rfl
  obtain ⟨fd_times_stretch, F0_times_stretch⟩ := c.t.d.def_ 33 (d := dd_times_stretch) rfl
  have F_times_stretch : Fun K "times_stretch" "times_stretch" s_times_stretch (He.ga K "times_stretch") fd_times_stretch := fun_of F0_times_stretch
  have k_times_stretch := F_times_stretch.kp
  have a_times_stretch : PySem.W.nsIn K mainGlobals "times_stretch" = some (some (.ref (He.ga K "times_stretch"))) := He.eqO_ok (c.t.d.fact 33 (f := .glo "times_stretch") rfl)
  have b_times_stretch := F_times_stretch.binds (ps := ["factor", "stretch"]) fun _ _ _ _ _ _ us hl => match us, hl with | [_, _], _ => rfl
  obtain ⟨fd_sum_stretch, F0_sum_stretch⟩ := c.t.d.def_ 34 (d := dd_sum_stretch) rfl
  have F_sum_stretch : Fun K "sum_stretch" "sum_stretch" s_sum_stretch (He.ga K "sum_stretch") fd_sum_stretch := fun_of F0_sum_stretch
  have k_sum_stretch := F_sum_stretch.kp
  have a_sum_stretch : PySem.W.nsIn K mainGlobals "sum_stretch" = some (some (.ref (He.ga K "sum_stretch"))) := He.eqO_ok (c.t.d.fact 34 (f := .glo "sum_stretch") rfl)
  have b_sum_stretch := F_sum_stretch.binds (ps := ["row", "stretches", "points"]) fun _ _ _ _ _ _ us hl => match us, hl with | [_, _, _], _ => rfl
  obtain ⟨fd_ends_kept, F0_ends_kept⟩ := c.t.d.def_ 35 (d := dd_ends_kept) rfl
  have F_ends_kept : Fun K "ends_kept" "ends_kept" s_ends_kept (He.ga K "ends_kept") fd_ends_kept := fun_of F0_ends_kept
  have k_ends_kept := F_ends_kept.kp
  have a_ends_kept : PySem.W.nsIn K mainGlobals "ends_kept" = some (some (.ref (He.ga K "ends_kept"))) := He.eqO_ok (c.t.d.fact 35 (f := .glo "ends_kept") rfl)
  have b_ends_kept := F_ends_kept.binds (ps := ["form", "stretch", "point"]) fun _ _ _ _ _ _ us hl => match us, hl with | [_, _, _], _ => rfl
  obtain ⟨fd_is_over, F0_is_over⟩ := c.t.d.def_ 36 (d := dd_is_over) rfl
  have F_is_over : Fun K "is_over" "is_over" s_is_over (He.ga K "is_over") fd_is_over := fun_of F0_is_over
  have k_is_over := F_is_over.kp
  have a_is_over : PySem.W.nsIn K mainGlobals "is_over" = some (some (.ref (He.ga K "is_over"))) := He.eqO_ok (c.t.d.fact 36 (f := .glo "is_over") rfl)
  have b_is_over := F_is_over.binds (ps := ["ends"]) fun _ _ _ _ _ _ us hl => match us, hl with | [_], _ => rfl
  obtain ⟨fd_all_words, F0_all_words⟩ := c.t.d.def_ 37 (d := dd_all_words) rfl
  have F_all_words : Fun K "all_words" "all_words" s_all_words (He.ga K "all_words") fd_all_words := fun_of F0_all_words
  have k_all_words := F_all_words.kp
  have a_all_words : PySem.W.nsIn K mainGlobals "all_words" = some (some (.ref (He.ga K "all_words"))) := He.eqO_ok (c.t.d.fact 37 (f := .glo "all_words") rfl)
  have b_all_words := F_all_words.binds (ps := ["form"]) fun _ _ _ _ _ _ us hl => match us, hl with | [_], _ => rfl
  obtain ⟨fd_keep_stretch, F0_keep_stretch⟩ := c.t.d.def_ 38 (d := dd_keep_stretch) rfl
  have F_keep_stretch : Fun K "keep_stretch" "keep_stretch" s_keep_stretch (He.ga K "keep_stretch") fd_keep_stretch := fun_of F0_keep_stretch
  have k_keep_stretch := F_keep_stretch.kp
  have a_keep_stretch : PySem.W.nsIn K mainGlobals "keep_stretch" = some (some (.ref (He.ga K "keep_stretch"))) := He.eqO_ok (c.t.d.fact 38 (f := .glo "keep_stretch") rfl)
  have b_keep_stretch := F_keep_stretch.binds (ps := ["form", "stretch", "point"]) fun _ _ _ _ _ _ us hl => match us, hl with | [_, _, _], _ => rfl
  obtain ⟨fd_stretch_of_row, F0_stretch_of_row⟩ := c.t.d.def_ 39 (d := dd_stretch_of_row) rfl
  have F_stretch_of_row : Fun K "stretch_of_row" "stretch_of_row" s_stretch_of_row (He.ga K "stretch_of_row") fd_stretch_of_row := fun_of F0_stretch_of_row
  have k_stretch_of_row := F_stretch_of_row.kp
  have a_stretch_of_row : PySem.W.nsIn K mainGlobals "stretch_of_row" = some (some (.ref (He.ga K "stretch_of_row"))) := He.eqO_ok (c.t.d.fact 39 (f := .glo "stretch_of_row") rfl)
  have b_stretch_of_row := F_stretch_of_row.binds (ps := ["row", "stretches", "forms", "points"]) fun _ _ _ _ _ _ us hl => match us, hl with | [_, _, _, _], _ => rfl
  obtain ⟨fd_hull, F0_hull⟩ := c.t.d.def_ 40 (d := dd_hull) rfl
  have F_hull : Fun K "hull" "hull" s_hull (He.ga K "hull") fd_hull := fun_of F0_hull
  have k_hull := F_hull.kp
  have a_hull : PySem.W.nsIn K mainGlobals "hull" = some (some (.ref (He.ga K "hull"))) := He.eqO_ok (c.t.d.fact 40 (f := .glo "hull") rfl)
  have b_hull := F_hull.binds (ps := ["one", "other"]) fun _ _ _ _ _ _ us hl => match us, hl with | [_, _], _ => rfl
  obtain ⟨fd_widened, F0_widened⟩ := c.t.d.def_ 41 (d := dd_widened) rfl
  have F_widened : Fun K "widened" "widened" s_widened (He.ga K "widened") fd_widened := fun_of F0_widened
  have k_widened := F_widened.kp
  have a_widened : PySem.W.nsIn K mainGlobals "widened" = some (some (.ref (He.ga K "widened"))) := He.eqO_ok (c.t.d.fact 41 (f := .glo "widened") rfl)
  have b_widened := F_widened.binds (ps := ["net", "held", "stretches", "rounds", "many"]) fun _ _ _ _ _ _ us hl => match us, hl with | [_, _, _, _, _], _ => rfl
  obtain ⟨fd_box, F0_box⟩ := c.t.d.def_ 42 (d := dd_box) rfl
  have F_box : FunD K "box" "box" (defArgs s_box) (defBody s_box) (defScope s_box) [V.int 20] [] (He.ga K "box") fd_box := F0_box
  have k_box := F_box.kp
  have a_box : PySem.W.nsIn K mainGlobals "box" = some (some (.ref (He.ga K "box"))) := He.eqO_ok (c.t.d.fact 42 (f := .glo "box") rfl)
  obtain ⟨ds_box3, dv_box3, b_box3⟩ := F_box.binds1 (ps := ["net", "low", "high", "many"]) 3 0 (by simp) rfl fun _ _ _ _ _ _ _ us its h1 h2 => match us, its, h1, h2 with | [_, _, _], [_], _, _ => ⟨_, rfl, rfl⟩
  obtain ⟨ds_box4, dv_box4, b_box4⟩ := F_box.binds1 (ps := ["net", "low", "high", "many"]) 4 1 (by simp) rfl fun _ _ _ _ _ _ _ us its h1 h2 => match us, its, h1, h2 with | [_, _, _, _], [_], _, _ => ⟨_, rfl, rfl⟩
  cases dv_box4
  obtain ⟨fd_is_hold_stretch, F0_is_hold_stretch⟩ := c.t.d.def_ 43 (d := dd_is_hold_stretch) rfl
  have F_is_hold_stretch : Fun K "is_hold_stretch" "is_hold_stretch" s_is_hold_stretch (He.ga K "is_hold_stretch") fd_is_hold_stretch := fun_of F0_is_hold_stretch
  have k_is_hold_stretch := F_is_hold_stretch.kp
  have a_is_hold_stretch : PySem.W.nsIn K mainGlobals "is_hold_stretch" = some (some (.ref (He.ga K "is_hold_stretch"))) := He.eqO_ok (c.t.d.fact 43 (f := .glo "is_hold_stretch") rfl)
  have b_is_hold_stretch := F_is_hold_stretch.binds (ps := ["form", "word", "thing"]) fun _ _ _ _ _ _ us hl => match us, hl with | [_, _, _], _ => rfl
  obtain ⟨fd_are_hold_stretches, F0_are_hold_stretches⟩ := c.t.d.def_ 44 (d := dd_are_hold_stretches) rfl
  have F_are_hold_stretches : Fun K "are_hold_stretches" "are_hold_stretches" s_are_hold_stretches (He.ga K "are_hold_stretches") fd_are_hold_stretches := fun_of F0_are_hold_stretches
  have k_are_hold_stretches := F_are_hold_stretches.kp
  have a_are_hold_stretches : PySem.W.nsIn K mainGlobals "are_hold_stretches" = some (some (.ref (He.ga K "are_hold_stretches"))) := He.eqO_ok (c.t.d.fact 44 (f := .glo "are_hold_stretches") rfl)
  have b_are_hold_stretches := F_are_hold_stretches.binds (ps := ["net", "thing"]) fun _ _ _ _ _ _ us hl => match us, hl with | [_, _], _ => rfl
  obtain ⟨fd_is_box, F0_is_box⟩ := c.t.d.def_ 45 (d := dd_is_box) rfl
  have F_is_box : Fun K "is_box" "is_box" s_is_box (He.ga K "is_box") fd_is_box := fun_of F0_is_box
  have k_is_box := F_is_box.kp
  have a_is_box : PySem.W.nsIn K mainGlobals "is_box" = some (some (.ref (He.ga K "is_box"))) := He.eqO_ok (c.t.d.fact 45 (f := .glo "is_box") rfl)
  have b_is_box := F_is_box.binds (ps := ["net", "low", "high", "holds"]) fun _ _ _ _ _ _ us hl => match us, hl with | [_, _, _, _], _ => rfl
  obtain ⟨fd_may_over, F0_may_over⟩ := c.t.d.def_ 46 (d := dd_may_over) rfl
  have F_may_over : Fun K "may_over" "may_over" s_may_over (He.ga K "may_over") fd_may_over := fun_of F0_may_over
  have k_may_over := F_may_over.kp
  have a_may_over : PySem.W.nsIn K mainGlobals "may_over" = some (some (.ref (He.ga K "may_over"))) := He.eqO_ok (c.t.d.fact 46 (f := .glo "may_over") rfl)
  have b_may_over := F_may_over.binds (ps := ["net", "low", "high", "holds"]) fun _ _ _ _ _ _ us hl => match us, hl with | [_, _, _, _], _ => rfl
  obtain ⟨fd__law_cell_at, F0__law_cell_at⟩ := c.t.d.def_ 47 (d := dd__law_cell_at) rfl
  have F__law_cell_at : Fun K "_law_cell_at" "_law_cell_at" s__law_cell_at (He.ga K "_law_cell_at") fd__law_cell_at := fun_of F0__law_cell_at
  have k__law_cell_at := F__law_cell_at.kp
  have a__law_cell_at : PySem.W.nsIn K mainGlobals "_law_cell_at" = some (some (.ref (He.ga K "_law_cell_at"))) := He.eqO_ok (c.t.d.fact 47 (f := .glo "_law_cell_at") rfl)
  have b__law_cell_at := F__law_cell_at.binds (ps := ["_law_script", "_law_k"]) fun _ _ _ _ _ _ us hl => match us, hl with | [_, _], _ => rfl
  obtain ⟨fd__law_well, F0__law_well⟩ := c.t.d.def_ 48 (d := dd__law_well) rfl
  have F__law_well : Fun K "_law_well" "_law_well" s__law_well (He.ga K "_law_well") fd__law_well := fun_of F0__law_well
  have k__law_well := F__law_well.kp
  have a__law_well : PySem.W.nsIn K mainGlobals "_law_well" = some (some (.ref (He.ga K "_law_well"))) := He.eqO_ok (c.t.d.fact 48 (f := .glo "_law_well") rfl)
  have b__law_well := F__law_well.binds (ps := ["_law_cell"]) fun _ _ _ _ _ _ us hl => match us, hl with | [_], _ => rfl
  obtain ⟨fd__law_draw, F0__law_draw⟩ := c.t.d.def_ 49 (d := dd__law_draw) rfl
  have F__law_draw : Fun K "_law_draw" "_law_draw" s__law_draw (He.ga K "_law_draw") fd__law_draw := fun_of F0__law_draw
  have k__law_draw := F__law_draw.kp
  have a__law_draw : PySem.W.nsIn K mainGlobals "_law_draw" = some (some (.ref (He.ga K "_law_draw"))) := He.eqO_ok (c.t.d.fact 49 (f := .glo "_law_draw") rfl)
  have b__law_draw := F__law_draw.binds (ps := ["_law_well_here", "_law_many"]) fun _ _ _ _ _ _ us hl => match us, hl with | [_, _], _ => rfl
  obtain ⟨fd__law_form, F0__law_form⟩ := c.t.d.def_ 50 (d := dd__law_form) rfl
  have F__law_form : Fun K "_law_form" "_law_form" s__law_form (He.ga K "_law_form") fd__law_form := fun_of F0__law_form
  have k__law_form := F__law_form.kp
  have a__law_form : PySem.W.nsIn K mainGlobals "_law_form" = some (some (.ref (He.ga K "_law_form"))) := He.eqO_ok (c.t.d.fact 50 (f := .glo "_law_form") rfl)
  have b__law_form := F__law_form.binds (ps := ["_law_well_here", "_law_free", "_law_reach"]) fun _ _ _ _ _ _ us hl => match us, hl with | [_, _, _], _ => rfl
  obtain ⟨fd__law_word, F0__law_word⟩ := c.t.d.def_ 51 (d := dd__law_word) rfl
  have F__law_word : Fun K "_law_word" "_law_word" s__law_word (He.ga K "_law_word") fd__law_word := fun_of F0__law_word
  have k__law_word := F__law_word.kp
  have a__law_word : PySem.W.nsIn K mainGlobals "_law_word" = some (some (.ref (He.ga K "_law_word"))) := He.eqO_ok (c.t.d.fact 51 (f := .glo "_law_word") rfl)
  have b__law_word := F__law_word.binds (ps := ["_law_well_here", "_law_form_here"]) fun _ _ _ _ _ _ us hl => match us, hl with | [_, _], _ => rfl
  obtain ⟨fd__law_row, F0__law_row⟩ := c.t.d.def_ 52 (d := dd__law_row) rfl
  have F__law_row : Fun K "_law_row" "_law_row" s__law_row (He.ga K "_law_row") fd__law_row := fun_of F0__law_row
  have k__law_row := F__law_row.kp
  have a__law_row : PySem.W.nsIn K mainGlobals "_law_row" = some (some (.ref (He.ga K "_law_row"))) := He.eqO_ok (c.t.d.fact 52 (f := .glo "_law_row") rfl)
  have b__law_row := F__law_row.binds (ps := ["_law_well_here", "_law_count", "_law_at", "_law_free", "_law_reach", "_law_held"]) fun _ _ _ _ _ _ us hl => match us, hl with | [_, _, _, _, _, _], _ => rfl
  obtain ⟨fd__law_begin, F0__law_begin⟩ := c.t.d.def_ 53 (d := dd__law_begin) rfl
  have F__law_begin : Fun K "_law_begin" "_law_begin" s__law_begin (He.ga K "_law_begin") fd__law_begin := fun_of F0__law_begin
  have k__law_begin := F__law_begin.kp
  have a__law_begin : PySem.W.nsIn K mainGlobals "_law_begin" = some (some (.ref (He.ga K "_law_begin"))) := He.eqO_ok (c.t.d.fact 53 (f := .glo "_law_begin") rfl)
  have b__law_begin := F__law_begin.binds (ps := ["_law_well_here", "_law_held"]) fun _ _ _ _ _ _ us hl => match us, hl with | [_, _], _ => rfl
  obtain ⟨fd__law_mixed, F0__law_mixed⟩ := c.t.d.def_ 54 (d := dd__law_mixed) rfl
  have F__law_mixed : Fun K "_law_mixed" "_law_mixed" s__law_mixed (He.ga K "_law_mixed") fd__law_mixed := fun_of F0__law_mixed
  have k__law_mixed := F__law_mixed.kp
  have a__law_mixed : PySem.W.nsIn K mainGlobals "_law_mixed" = some (some (.ref (He.ga K "_law_mixed"))) := He.eqO_ok (c.t.d.fact 54 (f := .glo "_law_mixed") rfl)
  have b__law_mixed := F__law_mixed.binds (ps := ["_law_well_here", "_law_made_here", "_law_reach"]) fun _ _ _ _ _ _ us hl => match us, hl with | [_, _, _], _ => rfl
  obtain ⟨fd__law_link, F0__law_link⟩ := c.t.d.def_ 55 (d := dd__law_link) rfl
  have F__law_link : Fun K "_law_link" "_law_link" s__law_link (He.ga K "_law_link") fd__law_link := fun_of F0__law_link
  have k__law_link := F__law_link.kp
  have a__law_link : PySem.W.nsIn K mainGlobals "_law_link" = some (some (.ref (He.ga K "_law_link"))) := He.eqO_ok (c.t.d.fact 55 (f := .glo "_law_link") rfl)
  have b__law_link := F__law_link.binds (ps := ["_law_well_here", "_law_made_here", "_law_kind", "_law_last"]) fun _ _ _ _ _ _ us hl => match us, hl with | [_, _, _, _], _ => rfl
  obtain ⟨fd__law_net, F0__law_net⟩ := c.t.d.def_ 56 (d := dd__law_net) rfl
  have F__law_net : Fun K "_law_net" "_law_net" s__law_net (He.ga K "_law_net") fd__law_net := fun_of F0__law_net
  have k__law_net := F__law_net.kp
  have a__law_net : PySem.W.nsIn K mainGlobals "_law_net" = some (some (.ref (He.ga K "_law_net"))) := He.eqO_ok (c.t.d.fact 56 (f := .glo "_law_net") rfl)
  have b__law_net := F__law_net.binds (ps := ["_law_well_here"]) fun _ _ _ _ _ _ us hl => match us, hl with | [_], _ => rfl
  obtain ⟨fd__law_made, F0__law_made⟩ := c.t.d.def_ 57 (d := dd__law_made) rfl
  have F__law_made : Fun K "_law_made" "_law_made" s__law_made (He.ga K "_law_made") fd__law_made := fun_of F0__law_made
  have k__law_made := F__law_made.kp
  have a__law_made : PySem.W.nsIn K mainGlobals "_law_made" = some (some (.ref (He.ga K "_law_made"))) := He.eqO_ok (c.t.d.fact 57 (f := .glo "_law_made") rfl)
  have b__law_made := F__law_made.binds (ps := ["_law_house"]) fun _ _ _ _ _ _ us hl => match us, hl with | [_], _ => rfl
  obtain ⟨fd__law_rounded, F0__law_rounded⟩ := c.t.d.def_ 58 (d := dd__law_rounded) rfl
  have F__law_rounded : Fun K "_law_rounded" "_law_rounded" s__law_rounded (He.ga K "_law_rounded") fd__law_rounded := fun_of F0__law_rounded
  have k__law_rounded := F__law_rounded.kp
  have a__law_rounded : PySem.W.nsIn K mainGlobals "_law_rounded" = some (some (.ref (He.ga K "_law_rounded"))) := He.eqO_ok (c.t.d.fact 58 (f := .glo "_law_rounded") rfl)
  have b__law_rounded := F__law_rounded.binds (ps := ["_law_top", "_law_bottom", "_law_manner"]) fun _ _ _ _ _ _ us hl => match us, hl with | [_, _, _], _ => rfl
  obtain ⟨fd__law_kept, F0__law_kept⟩ := c.t.d.def_ 59 (d := dd__law_kept) rfl
  have F__law_kept : Fun K "_law_kept" "_law_kept" s__law_kept (He.ga K "_law_kept") fd__law_kept := fun_of F0__law_kept
  have k__law_kept := F__law_kept.kp
  have a__law_kept : PySem.W.nsIn K mainGlobals "_law_kept" = some (some (.ref (He.ga K "_law_kept"))) := He.eqO_ok (c.t.d.fact 59 (f := .glo "_law_kept") rfl)
  have b__law_kept := F__law_kept.binds (ps := ["_law_form_here", "_law_number", "_law_point"]) fun _ _ _ _ _ _ us hl => match us, hl with | [_, _, _], _ => rfl
  obtain ⟨fd__law_points, F0__law_points⟩ := c.t.d.def_ 60 (d := dd__law_points) rfl
  have F__law_points : Fun K "_law_points" "_law_points" s__law_points (He.ga K "_law_points") fd__law_points := fun_of F0__law_points
  have k__law_points := F__law_points.kp
  have a__law_points : PySem.W.nsIn K mainGlobals "_law_points" = some (some (.ref (He.ga K "_law_points"))) := He.eqO_ok (c.t.d.fact 60 (f := .glo "_law_points") rfl)
  have b__law_points := F__law_points.binds (ps := ["_law_house"]) fun _ _ _ _ _ _ us hl => match us, hl with | [_], _ => rfl
  obtain ⟨fd__law_sum, F0__law_sum⟩ := c.t.d.def_ 61 (d := dd__law_sum) rfl
  have F__law_sum : Fun K "_law_sum" "_law_sum" s__law_sum (He.ga K "_law_sum") fd__law_sum := fun_of F0__law_sum
  have k__law_sum := F__law_sum.kp
  have a__law_sum : PySem.W.nsIn K mainGlobals "_law_sum" = some (some (.ref (He.ga K "_law_sum"))) := He.eqO_ok (c.t.d.fact 61 (f := .glo "_law_sum") rfl)
  have b__law_sum := F__law_sum.binds (ps := ["_law_points_here", "_law_row_here", "_law_found"]) fun _ _ _ _ _ _ us hl => match us, hl with | [_, _, _], _ => rfl
  obtain ⟨fd__law_keep, F0__law_keep⟩ := c.t.d.def_ 62 (d := dd__law_keep) rfl
  have F__law_keep : Fun K "_law_keep" "_law_keep" s__law_keep (He.ga K "_law_keep") fd__law_keep := fun_of F0__law_keep
  have k__law_keep := F__law_keep.kp
  have a__law_keep : PySem.W.nsIn K mainGlobals "_law_keep" = some (some (.ref (He.ga K "_law_keep"))) := He.eqO_ok (c.t.d.fact 62 (f := .glo "_law_keep") rfl)
  have b__law_keep := F__law_keep.binds (ps := ["_law_form_here", "_law_point", "_law_ends"]) fun _ _ _ _ _ _ us hl => match us, hl with | [_, _, _], _ => rfl
  obtain ⟨fd__law_stretches, F0__law_stretches⟩ := c.t.d.def_ 63 (d := dd__law_stretches) rfl
  have F__law_stretches : Fun K "_law_stretches" "_law_stretches" s__law_stretches (He.ga K "_law_stretches") fd__law_stretches := fun_of F0__law_stretches
  have k__law_stretches := F__law_stretches.kp
  have a__law_stretches : PySem.W.nsIn K mainGlobals "_law_stretches" = some (some (.ref (He.ga K "_law_stretches"))) := He.eqO_ok (c.t.d.fact 63 (f := .glo "_law_stretches") rfl)
  have b__law_stretches := F__law_stretches.binds (ps := ["_law_parts", "_law_points_here", "_law_entered", "_law_hold_list"]) fun _ _ _ _ _ _ us hl => match us, hl with | [_, _, _, _], _ => rfl
  obtain ⟨fd__law_whole, F0__law_whole⟩ := c.t.d.def_ 64 (d := dd__law_whole) rfl
  have F__law_whole : Fun K "_law_whole" "_law_whole" s__law_whole (He.ga K "_law_whole") fd__law_whole := fun_of F0__law_whole
  have k__law_whole := F__law_whole.kp
  have a__law_whole : PySem.W.nsIn K mainGlobals "_law_whole" = some (some (.ref (He.ga K "_law_whole"))) := He.eqO_ok (c.t.d.fact 64 (f := .glo "_law_whole") rfl)
  have b__law_whole := F__law_whole.binds (ps := ["_law_thing"]) fun _ _ _ _ _ _ us hl => match us, hl with | [_], _ => rfl
  obtain ⟨fd__law_is_box, F0__law_is_box⟩ := c.t.d.def_ 65 (d := dd__law_is_box) rfl
  have F__law_is_box : Fun K "_law_is_box" "_law_is_box" s__law_is_box (He.ga K "_law_is_box") fd__law_is_box := fun_of F0__law_is_box
  have k__law_is_box := F__law_is_box.kp
  have a__law_is_box : PySem.W.nsIn K mainGlobals "_law_is_box" = some (some (.ref (He.ga K "_law_is_box"))) := He.eqO_ok (c.t.d.fact 65 (f := .glo "_law_is_box") rfl)
  have b__law_is_box := F__law_is_box.binds (ps := ["_law_parts", "_law_points_here", "_law_entered", "_law_hold_list"]) fun _ _ _ _ _ _ us hl => match us, hl with | [_, _, _, _], _ => rfl
  obtain ⟨fd__law_may_over, F0__law_may_over⟩ := c.t.d.def_ 66 (d := dd__law_may_over) rfl
  have F__law_may_over : Fun K "_law_may_over" "_law_may_over" s__law_may_over (He.ga K "_law_may_over") fd__law_may_over := fun_of F0__law_may_over
  have k__law_may_over := F__law_may_over.kp
  have a__law_may_over : PySem.W.nsIn K mainGlobals "_law_may_over" = some (some (.ref (He.ga K "_law_may_over"))) := He.eqO_ok (c.t.d.fact 66 (f := .glo "_law_may_over") rfl)
  have b__law_may_over := F__law_may_over.binds (ps := ["_law_parts", "_law_points_here", "_law_entered", "_law_hold_list"]) fun _ _ _ _ _ _ us hl => match us, hl with | [_, _, _, _], _ => rfl
  obtain ⟨fd__law_all, F0__law_all⟩ := c.t.d.def_ 67 (d := dd__law_all) rfl
  have F__law_all : Fun K "_law_all" "_law_all" s__law_all (He.ga K "_law_all") fd__law_all := fun_of F0__law_all
  have k__law_all := F__law_all.kp
  have a__law_all : PySem.W.nsIn K mainGlobals "_law_all" = some (some (.ref (He.ga K "_law_all"))) := He.eqO_ok (c.t.d.fact 67 (f := .glo "_law_all") rfl)
  have b__law_all := F__law_all.binds (ps := ["_law_parts"]) fun _ _ _ _ _ _ us hl => match us, hl with | [_], _ => rfl
  obtain ⟨fd__law_forged, F0__law_forged⟩ := c.t.d.def_ 68 (d := dd__law_forged) rfl
  have F__law_forged : Fun K "_law_forged" "_law_forged" s__law_forged (He.ga K "_law_forged") fd__law_forged := fun_of F0__law_forged
  have k__law_forged := F__law_forged.kp
  have a__law_forged : PySem.W.nsIn K mainGlobals "_law_forged" = some (some (.ref (He.ga K "_law_forged"))) := He.eqO_ok (c.t.d.fact 68 (f := .glo "_law_forged") rfl)
  have b__law_forged := F__law_forged.binds (ps := ["_law_well_here", "_law_parts", "_law_hold_list"]) fun _ _ _ _ _ _ us hl => match us, hl with | [_, _, _], _ => rfl
  obtain ⟨fd__law_refused, F0__law_refused⟩ := c.t.d.def_ 69 (d := dd__law_refused) rfl
  have F__law_refused : Fun K "_law_refused" "_law_refused" s__law_refused (He.ga K "_law_refused") fd__law_refused := fun_of F0__law_refused
  have k__law_refused := F__law_refused.kp
  have a__law_refused : PySem.W.nsIn K mainGlobals "_law_refused" = some (some (.ref (He.ga K "_law_refused"))) := He.eqO_ok (c.t.d.fact 69 (f := .glo "_law_refused") rfl)
  have b__law_refused := F__law_refused.binds (ps := ["_law_deed"]) fun _ _ _ _ _ _ us hl => match us, hl with | [_], _ => rfl
  obtain ⟨fd__law_bad_words, F0__law_bad_words⟩ := c.t.d.def_ 70 (d := dd__law_bad_words) rfl
  have F__law_bad_words : Fun K "_law_bad_words" "_law_bad_words" s__law_bad_words (He.ga K "_law_bad_words") fd__law_bad_words := fun_of F0__law_bad_words
  have k__law_bad_words := F__law_bad_words.kp
  have a__law_bad_words : PySem.W.nsIn K mainGlobals "_law_bad_words" = some (some (.ref (He.ga K "_law_bad_words"))) := He.eqO_ok (c.t.d.fact 70 (f := .glo "_law_bad_words") rfl)
  have b__law_bad_words := F__law_bad_words.binds (ps := ["_law_well_here", "_law_form_here"]) fun _ _ _ _ _ _ us hl => match us, hl with | [_, _], _ => rfl
  obtain ⟨fd__law_start_box, F0__law_start_box⟩ := c.t.d.def_ 71 (d := dd__law_start_box) rfl
  have F__law_start_box : Fun K "_law_start_box" "_law_start_box" s__law_start_box (He.ga K "_law_start_box") fd__law_start_box := fun_of F0__law_start_box
  have k__law_start_box := F__law_start_box.kp
  have a__law_start_box : PySem.W.nsIn K mainGlobals "_law_start_box" = some (some (.ref (He.ga K "_law_start_box"))) := He.eqO_ok (c.t.d.fact 71 (f := .glo "_law_start_box") rfl)
  have b__law_start_box := F__law_start_box.binds (ps := ["_law_house", "_law_parts", "_law_lowest", "_law_highest"]) fun _ _ _ _ _ _ us hl => match us, hl with | [_, _, _, _], _ => rfl
  obtain ⟨fd_law, F0_law⟩ := c.t.d.def_ 72 (d := dd_law) rfl
  have F_law : Fun K "law" "law" s_law (He.ga K "law") fd_law := fun_of F0_law
  have k_law := F_law.kp
  have a_law : PySem.W.nsIn K mainGlobals "law" = some (some (.ref (He.ga K "law"))) := He.eqO_ok (c.t.d.fact 72 (f := .glo "law") rfl)
  have b_law := F_law.binds (ps := ["_law_script"]) fun _ _ _ _ _ _ us hl => match us, hl with | [_], _ => rfl
  have FC_law : FunC K "law" s_law (He.ga K "law") fd_law (He.cT K ("law", none)).1 := funC_of (p := ("law", none)) F0_law
  have aC_C : PySem.W.nsIn K mainGlobals "Form" = some (some (.ref C)) := by
    rw [← e_C]
    exact He.eqO_ok (c.t.d.fact 73 (f := .glo "Form") rfl)
  have cl_C : Cls K C := by
    rw [← e_C]
    exact He.cls_ok (c.t.d.fact 74 (f := .cls "Form") rfl)
  have pg_C := cl_C.1
  have hd_C := cl_C.2
  have po_C := cl_C.3
  have sa_C := cl_C.4
  have mk0_C : Mk K C (He.ma K (He.ga K "Form") "__init__") := by
    rw [← e_C]
    exact He.mkr_ok (c.t.d.fact 75 (f := .mkr "Form") rfl)
  have mk_C := mk0_C.1
  have kc_C := mk0_C.4
  have n_C_width : NoAttr K C "width" := by
    rw [← e_C]
    exact He.noat_ok (c.t.d.fact 76 (f := .noat "Form" "width") rfl)
  have n_C_point : NoAttr K C "point" := by
    rw [← e_C]
    exact He.noat_ok (c.t.d.fact 77 (f := .noat "Form" "point") rfl)
  have n_C_manner : NoAttr K C "manner" := by
    rw [← e_C]
    exact He.noat_ok (c.t.d.fact 78 (f := .noat "Form" "manner") rfl)
  have n_C_ends : NoAttr K C "ends" := by
    rw [← e_C]
    exact He.noat_ok (c.t.d.fact 79 (f := .noat "Form" "ends") rfl)
  have aC_CN : PySem.W.nsIn K mainGlobals "Net" = some (some (.ref CN)) := by
    rw [← e_CN]
    exact He.eqO_ok (c.t.d.fact 80 (f := .glo "Net") rfl)
  have cl_CN : Cls K CN := by
    rw [← e_CN]
    exact He.cls_ok (c.t.d.fact 81 (f := .cls "Net") rfl)
  have pg_CN := cl_CN.1
  have hd_CN := cl_CN.2
  have po_CN := cl_CN.3
  have sa_CN := cl_CN.4
  have mk0_CN : Mk K CN (He.ma K (He.ga K "Net") "__init__") := by
    rw [← e_CN]
    exact He.mkr_ok (c.t.d.fact 82 (f := .mkr "Net") rfl)
  have mk_CN := mk0_CN.1
  have kc_CN := mk0_CN.4
  have n_CN_form_list : NoAttr K CN "form_list" := by
    rw [← e_CN]
    exact He.noat_ok (c.t.d.fact 83 (f := .noat "Net" "form_list") rfl)
  have n_CN_enters_at : NoAttr K CN "enters_at" := by
    rw [← e_CN]
    exact He.noat_ok (c.t.d.fact 84 (f := .noat "Net" "enters_at") rfl)
  have n_CN_row_list : NoAttr K CN "row_list" := by
    rw [← e_CN]
    exact He.noat_ok (c.t.d.fact 85 (f := .noat "Net" "row_list") rfl)
  have n_CN_hold_list : NoAttr K CN "hold_list" := by
    rw [← e_CN]
    exact He.noat_ok (c.t.d.fact 86 (f := .noat "Net" "hold_list") rfl)
  have n_CN_out_at : NoAttr K CN "out_at" := by
    rw [← e_CN]
    exact He.noat_ok (c.t.d.fact 87 (f := .noat "Net" "out_at") rfl)
  have n_CN_point_list : NoAttr K CN "point_list" := by
    rw [← e_CN]
    exact He.noat_ok (c.t.d.fact 88 (f := .noat "Net" "point_list") rfl)
  obtain ⟨fd_Form_least, F0_Form_least⟩ := c.t.d.def_ 73 (d := dd_Form_least) rfl
  have F_Form_least : Fun K "least" "Form.least" s_Form_least (He.ma K (He.ga K "Form") "least") fd_Form_least := fun_of F0_Form_least
  have k_Form_least := F_Form_least.kp
  have m0_Form_least : Meth K C "least" (He.ma K (He.ga K "Form") "least") := by
    rw [← e_C]
    exact He.meth_ok (c.t.d.fact 89 (f := .meth "Form" "least") rfl)
  have a_Form_least := m0_Form_least.1
  have i_Form_least := m0_Form_least.2
  have b_Form_least := F_Form_least.binds (ps := ["self"]) fun _ _ _ _ _ _ us hl => match us, hl with | [_], _ => rfl
  obtain ⟨fd_Form_greatest, F0_Form_greatest⟩ := c.t.d.def_ 74 (d := dd_Form_greatest) rfl
  have F_Form_greatest : Fun K "greatest" "Form.greatest" s_Form_greatest (He.ma K (He.ga K "Form") "greatest") fd_Form_greatest := fun_of F0_Form_greatest
  have k_Form_greatest := F_Form_greatest.kp
  have m0_Form_greatest : Meth K C "greatest" (He.ma K (He.ga K "Form") "greatest") := by
    rw [← e_C]
    exact He.meth_ok (c.t.d.fact 90 (f := .meth "Form" "greatest") rfl)
  have a_Form_greatest := m0_Form_greatest.1
  have i_Form_greatest := m0_Form_greatest.2
  have b_Form_greatest := F_Form_greatest.binds (ps := ["self"]) fun _ _ _ _ _ _ us hl => match us, hl with | [_], _ => rfl
  obtain ⟨fd_Form_has, F0_Form_has⟩ := c.t.d.def_ 75 (d := dd_Form_has) rfl
  have F_Form_has : Fun K "has" "Form.has" s_Form_has (He.ma K (He.ga K "Form") "has") fd_Form_has := fun_of F0_Form_has
  have k_Form_has := F_Form_has.kp
  have m0_Form_has : Meth K C "has" (He.ma K (He.ga K "Form") "has") := by
    rw [← e_C]
    exact He.meth_ok (c.t.d.fact 91 (f := .meth "Form" "has") rfl)
  have a_Form_has := m0_Form_has.1
  have i_Form_has := m0_Form_has.2
  have b_Form_has := F_Form_has.binds (ps := ["self", "thing"]) fun _ _ _ _ _ _ us hl => match us, hl with | [_, _], _ => rfl
  obtain ⟨fd_Form_word_for, F0_Form_word_for⟩ := c.t.d.def_ 76 (d := dd_Form_word_for) rfl
  have F_Form_word_for : Fun K "word_for" "Form.word_for" s_Form_word_for (He.ma K (He.ga K "Form") "word_for") fd_Form_word_for := fun_of F0_Form_word_for
  have k_Form_word_for := F_Form_word_for.kp
  have m0_Form_word_for : Meth K C "word_for" (He.ma K (He.ga K "Form") "word_for") := by
    rw [← e_C]
    exact He.meth_ok (c.t.d.fact 92 (f := .meth "Form" "word_for") rfl)
  have a_Form_word_for := m0_Form_word_for.1
  have i_Form_word_for := m0_Form_word_for.2
  have b_Form_word_for := F_Form_word_for.binds (ps := ["self", "number"]) fun _ _ _ _ _ _ us hl => match us, hl with | [_, _], _ => rfl
  obtain ⟨fd_Form_ended, F0_Form_ended⟩ := c.t.d.def_ 77 (d := dd_Form_ended) rfl
  have F_Form_ended : Fun K "ended" "Form.ended" s_Form_ended (He.ma K (He.ga K "Form") "ended") fd_Form_ended := fun_of F0_Form_ended
  have k_Form_ended := F_Form_ended.kp
  have m0_Form_ended : Meth K C "ended" (He.ma K (He.ga K "Form") "ended") := by
    rw [← e_C]
    exact He.meth_ok (c.t.d.fact 93 (f := .meth "Form" "ended") rfl)
  have a_Form_ended := m0_Form_ended.1
  have i_Form_ended := m0_Form_ended.2
  have b_Form_ended := F_Form_ended.binds (ps := ["self", "number"]) fun _ _ _ _ _ _ us hl => match us, hl with | [_, _], _ => rfl
  obtain ⟨fd_Form_kept_at, F0_Form_kept_at⟩ := c.t.d.def_ 78 (d := dd_Form_kept_at) rfl
  have F_Form_kept_at : Fun K "kept_at" "Form.kept_at" s_Form_kept_at (He.ma K (He.ga K "Form") "kept_at") fd_Form_kept_at := fun_of F0_Form_kept_at
  have k_Form_kept_at := F_Form_kept_at.kp
  have m0_Form_kept_at : Meth K C "kept_at" (He.ma K (He.ga K "Form") "kept_at") := by
    rw [← e_C]
    exact He.meth_ok (c.t.d.fact 94 (f := .meth "Form" "kept_at") rfl)
  have a_Form_kept_at := m0_Form_kept_at.1
  have i_Form_kept_at := m0_Form_kept_at.2
  have b_Form_kept_at := F_Form_kept_at.binds (ps := ["self", "number", "point"]) fun _ _ _ _ _ _ us hl => match us, hl with | [_, _, _], _ => rfl
  obtain ⟨fd_Net_forms, F0_Net_forms⟩ := c.t.d.def_ 79 (d := dd_Net_forms) rfl
  have F_Net_forms : Fun K "forms" "Net.forms" s_Net_forms (He.ma K (He.ga K "Net") "forms") fd_Net_forms := fun_of F0_Net_forms
  have k_Net_forms := F_Net_forms.kp
  have m0_Net_forms : Meth K CN "forms" (He.ma K (He.ga K "Net") "forms") := by
    rw [← e_CN]
    exact He.meth_ok (c.t.d.fact 95 (f := .meth "Net" "forms") rfl)
  have a_Net_forms := m0_Net_forms.1
  have i_Net_forms := m0_Net_forms.2
  have b_Net_forms := F_Net_forms.binds (ps := ["self"]) fun _ _ _ _ _ _ us hl => match us, hl with | [_], _ => rfl
  obtain ⟨fd_Net_rows, F0_Net_rows⟩ := c.t.d.def_ 80 (d := dd_Net_rows) rfl
  have F_Net_rows : Fun K "rows" "Net.rows" s_Net_rows (He.ma K (He.ga K "Net") "rows") fd_Net_rows := fun_of F0_Net_rows
  have k_Net_rows := F_Net_rows.kp
  have m0_Net_rows : Meth K CN "rows" (He.ma K (He.ga K "Net") "rows") := by
    rw [← e_CN]
    exact He.meth_ok (c.t.d.fact 96 (f := .meth "Net" "rows") rfl)
  have a_Net_rows := m0_Net_rows.1
  have i_Net_rows := m0_Net_rows.2
  have b_Net_rows := F_Net_rows.binds (ps := ["self"]) fun _ _ _ _ _ _ us hl => match us, hl with | [_], _ => rfl
  obtain ⟨fd_Net_holds, F0_Net_holds⟩ := c.t.d.def_ 81 (d := dd_Net_holds) rfl
  have F_Net_holds : Fun K "holds" "Net.holds" s_Net_holds (He.ma K (He.ga K "Net") "holds") fd_Net_holds := fun_of F0_Net_holds
  have k_Net_holds := F_Net_holds.kp
  have m0_Net_holds : Meth K CN "holds" (He.ma K (He.ga K "Net") "holds") := by
    rw [← e_CN]
    exact He.meth_ok (c.t.d.fact 97 (f := .meth "Net" "holds") rfl)
  have a_Net_holds := m0_Net_holds.1
  have i_Net_holds := m0_Net_holds.2
  have b_Net_holds := F_Net_holds.binds (ps := ["self"]) fun _ _ _ _ _ _ us hl => match us, hl with | [_], _ => rfl
  obtain ⟨fd_Net_points, F0_Net_points⟩ := c.t.d.def_ 82 (d := dd_Net_points) rfl
  have F_Net_points : Fun K "points" "Net.points" s_Net_points (He.ma K (He.ga K "Net") "points") fd_Net_points := fun_of F0_Net_points
  have k_Net_points := F_Net_points.kp
  have m0_Net_points : Meth K CN "points" (He.ma K (He.ga K "Net") "points") := by
    rw [← e_CN]
    exact He.meth_ok (c.t.d.fact 98 (f := .meth "Net" "points") rfl)
  have a_Net_points := m0_Net_points.1
  have i_Net_points := m0_Net_points.2
  have b_Net_points := F_Net_points.binds (ps := ["self"]) fun _ _ _ _ _ _ us hl => match us, hl with | [_], _ => rfl
  obtain ⟨fd_Net_enters, F0_Net_enters⟩ := c.t.d.def_ 83 (d := dd_Net_enters) rfl
  have F_Net_enters : Fun K "enters" "Net.enters" s_Net_enters (He.ma K (He.ga K "Net") "enters") fd_Net_enters := fun_of F0_Net_enters
  have k_Net_enters := F_Net_enters.kp
  have m0_Net_enters : Meth K CN "enters" (He.ma K (He.ga K "Net") "enters") := by
    rw [← e_CN]
    exact He.meth_ok (c.t.d.fact 99 (f := .meth "Net" "enters") rfl)
  have a_Net_enters := m0_Net_enters.1
  have i_Net_enters := m0_Net_enters.2
  have b_Net_enters := F_Net_enters.binds (ps := ["self"]) fun _ _ _ _ _ _ us hl => match us, hl with | [_], _ => rfl
  obtain ⟨fd_Net_start, F0_Net_start⟩ := c.t.d.def_ 84 (d := dd_Net_start) rfl
  have F_Net_start : Fun K "start" "Net.start" s_Net_start (He.ma K (He.ga K "Net") "start") fd_Net_start := fun_of F0_Net_start
  have k_Net_start := F_Net_start.kp
  have m0_Net_start : Meth K CN "start" (He.ma K (He.ga K "Net") "start") := by
    rw [← e_CN]
    exact He.meth_ok (c.t.d.fact 100 (f := .meth "Net" "start") rfl)
  have a_Net_start := m0_Net_start.1
  have i_Net_start := m0_Net_start.2
  have b_Net_start := F_Net_start.binds (ps := ["self"]) fun _ _ _ _ _ _ us hl => match us, hl with | [_], _ => rfl
  obtain ⟨fd_Net_keeps, F0_Net_keeps⟩ := c.t.d.def_ 85 (d := dd_Net_keeps) rfl
  have F_Net_keeps : Fun K "keeps" "Net.keeps" s_Net_keeps (He.ma K (He.ga K "Net") "keeps") fd_Net_keeps := fun_of F0_Net_keeps
  have k_Net_keeps := F_Net_keeps.kp
  have m0_Net_keeps : Meth K CN "keeps" (He.ma K (He.ga K "Net") "keeps") := by
    rw [← e_CN]
    exact He.meth_ok (c.t.d.fact 101 (f := .meth "Net" "keeps") rfl)
  have a_Net_keeps := m0_Net_keeps.1
  have i_Net_keeps := m0_Net_keeps.2
  have b_Net_keeps := F_Net_keeps.binds (ps := ["self"]) fun _ _ _ _ _ _ us hl => match us, hl with | [_], _ => rfl
  obtain ⟨fd_Net___init__, F0_Net___init__⟩ := c.t.d.def_ 86 (d := dd_Net___init__) rfl
  have F_Net___init__ : Fun K "__init__" "Net.__init__" s_Net___init__ (He.ma K (He.ga K "Net") "__init__") fd_Net___init__ := fun_of F0_Net___init__
  have k_Net___init__ := F_Net___init__.kp
  have m0_Net___init__ : Meth K CN "__init__" (He.ma K (He.ga K "Net") "__init__") := by
    rw [← e_CN]
    exact He.meth_ok (c.t.d.fact 102 (f := .meth "Net" "__init__") rfl)
  have a_Net___init__ := m0_Net___init__.1
  have i_Net___init__ := m0_Net___init__.2
  have b_Net___init__ := F_Net___init__.binds (ps := ["self", "forms", "enters", "rows", "holds", "out"]) fun _ _ _ _ _ _ us hl => match us, hl with | [_, _, _, _, _, _], _ => rfl
  have aC_CE : PySem.W.nsIn K mainGlobals "EchoError" = some (some (.ref CE)) := by
    rw [← e_CE]
    exact He.eqO_ok (c.t.d.fact 103 (f := .glo "EchoError") rfl)
  have aC_CW : PySem.W.nsIn K mainGlobals "NoWords" = some (some (.ref CW)) := by
    rw [← e_CW]
    exact He.eqO_ok (c.t.d.fact 104 (f := .glo "NoWords") rfl)
  have aC_CS : PySem.W.nsIn K mainGlobals "NoState" = some (some (.ref CS)) := by
    rw [← e_CS]
    exact He.eqO_ok (c.t.d.fact 105 (f := .glo "NoState") rfl)
  have aC_CU : PySem.W.nsIn K mainGlobals "Unfit" = some (some (.ref CU)) := by
    rw [← e_CU]
    exact He.eqO_ok (c.t.d.fact 106 (f := .glo "Unfit") rfl)
  have aC_CM : PySem.W.nsIn K mainGlobals "TooMany" = some (some (.ref CM)) := by
    rw [← e_CM]
    exact He.eqO_ok (c.t.d.fact 107 (f := .glo "TooMany") rfl)
  have ei_CM : PySem.W.excInitIn K (He.ga K "TooMany") PySem.ErrX.bmA "ArithmeticError.__new__" = true := of_decide_eq_true (ex_at c.more (i := 0) (b := decide (PySem.W.excInitIn K (He.ga K "TooMany") PySem.ErrX.bmA "ArithmeticError.__new__" = true)) rfl)
  rw [e_CM] at ei_CM
  have eo_CM : PySem.W.excOver K (He.ga K "TooMany") PySem.ErrX.bmA = true := of_decide_eq_true (ex_at c.more (i := 1) (b := decide (PySem.W.excOver K (He.ga K "TooMany") PySem.ErrX.bmA = true)) rfl)
  rw [e_CM] at eo_CM
  have sa_CM : PySem.W.findIn K (.ref (He.ga K "TooMany")) "__setattr__" = some (some (.builtin "object.__setattr__")) := of_decide_eq_true (ex_at c.more (i := 2) (b := decide (PySem.W.findIn K (.ref (He.ga K "TooMany")) "__setattr__" = some (some (.builtin "object.__setattr__")))) rfl)
  rw [e_CM] at sa_CM
  have ga_CM : PySem.W.findIn K (.ref (He.ga K "TooMany")) "__getattribute__" = some (some (.builtin "BaseException.__getattribute__")) := of_decide_eq_true (ex_at c.more (i := 3) (b := decide (PySem.W.findIn K (.ref (He.ga K "TooMany")) "__getattribute__" = some (some (.builtin "BaseException.__getattribute__")))) rfl)
  rw [e_CM] at ga_CM
  have gg_CM : PySem.W.findIn K (.ref (He.ga K "TooMany")) "__getattr__" = some none := of_decide_eq_true (ex_at c.more (i := 4) (b := decide (PySem.W.findIn K (.ref (He.ga K "TooMany")) "__getattr__" = some none)) rfl)
  rw [e_CM] at gg_CM
  have kC_CM : PySem.W.keepIn K (.ref (He.ga K "TooMany")) = true := of_decide_eq_true (ex_at c.more (i := 5) (b := decide (PySem.W.keepIn K (.ref (He.ga K "TooMany")) = true)) rfl)
  rw [e_CM] at kC_CM
  have ex_CM : PySem.W.subIn K (.ref (He.ga K "TooMany")) (.type "BaseException") = some true := of_decide_eq_true (ex_at c.more (i := 6) (b := decide (PySem.W.subIn K (.ref (He.ga K "TooMany")) (.type "BaseException") = some true)) rfl)
  rw [e_CM] at ex_CM
  have ty_CM : PySem.W.typeIn K (.ref (He.ga K "TooMany")) = some (.type "type") := of_decide_eq_true (ex_at c.more (i := 7) (b := decide (PySem.W.typeIn K (.ref (He.ga K "TooMany")) = some (.type "type"))) rfl)
  rw [e_CM] at ty_CM
  have hd_CM : PySem.W.hasDictIn K (He.ga K "TooMany") = true := of_decide_eq_true (ex_at c.more (i := 8) (b := decide (PySem.W.hasDictIn K (He.ga K "TooMany") = true)) rfl)
  rw [e_CM] at hd_CM
  have ha_CM : PySem.W.findIn K (.ref (He.ga K "TooMany")) "__class__" = some (some (.builtin "object.__class__")) := of_decide_eq_true (ex_at c.more (i := 9) (b := decide (PySem.W.findIn K (.ref (He.ga K "TooMany")) "__class__" = some (some (.builtin "object.__class__")))) rfl)
  rw [e_CM] at ha_CM
  have hn_CM : PySem.W.specialIn K (.builtin "object.__class__") "__get__" = some (some (.builtin "getset_descriptor.__get__")) := of_decide_eq_true (ex_at c.more (i := 10) (b := decide (PySem.W.specialIn K (.builtin "object.__class__") "__get__" = some (some (.builtin "getset_descriptor.__get__")))) rfl)
  have ht_CM : PySem.W.takesIn K (.builtin "object.__class__") = some true := of_decide_eq_true (ex_at c.more (i := 11) (b := decide (PySem.W.takesIn K (.builtin "object.__class__") = some true)) rfl)
  have hm_CM : PySem.W.mroIn K (He.ga K "TooMany") (.type "object") = some true := of_decide_eq_true (ex_at c.more (i := 12) (b := decide (PySem.W.mroIn K (He.ga K "TooMany") (.type "object") = some true)) rfl)
  rw [e_CM] at hm_CM
  have iC_CM : PySem.W.findIn K (.ref (He.ga K "TooMany")) "__init__" = some (some (.ref (iniA K "TooMany"))) := of_decide_eq_true (ex_at c.more (i := 13) (b := decide (PySem.W.findIn K (.ref (He.ga K "TooMany")) "__init__" = some (some (.ref (iniA K "TooMany"))))) rfl)
  rw [e_CM] at iC_CM
  have tC_CM : PySem.W.typeIn K (.ref (iniA K "TooMany")) = some (.type "function") := of_decide_eq_true (ex_at c.more (i := 14) (b := decide (PySem.W.typeIn K (.ref (iniA K "TooMany")) = some (.type "function"))) rfl)
  have nf_CM : PySem.W.findIn K (.ref (He.ga K "TooMany")) "many" = some none := of_decide_eq_true (ex_at c.more (i := 15) (b := decide (PySem.W.findIn K (.ref (He.ga K "TooMany")) "many" = some none)) rfl)
  rw [e_CM] at nf_CM
  have su_CM : PySem.W.ks_superIn K (He.ga K "TooMany") (He.ga K "TooMany") "__init__" = some (some (.builtin "ArithmeticError.__init__")) := of_decide_eq_true (ex_at c.more (i := 16) (b := decide (PySem.W.ks_superIn K (He.ga K "TooMany") (He.ga K "TooMany") "__init__" = some (some (.builtin "ArithmeticError.__init__")))) rfl)
  rw [e_CM] at su_CM
  have sA_CM : PySem.W.subIn K (.ref (He.ga K "TooMany")) (.type "ArithmeticError") = some true := of_decide_eq_true (ex_at c.more (i := 17) (b := decide (PySem.W.subIn K (.ref (He.ga K "TooMany")) (.type "ArithmeticError") = some true)) rfl)
  rw [e_CM] at sA_CM
  have sf_CM : PySem.W.mroIn K (He.ga K "TooMany") (.ref (He.ga K "TooMany")) = some true := of_decide_eq_true (ex_at c.more (i := 18) (b := decide (PySem.W.mroIn K (He.ga K "TooMany") (.ref (He.ga K "TooMany")) = some true)) rfl)
  rw [e_CM] at sf_CM
  have th_CM : PySem.W.nsIn K cStatics "thirdparty.any" = some none := of_decide_eq_true (ex_at c.more (i := 19) (b := decide (PySem.W.nsIn K cStatics "thirdparty.any" = some none)) rfl)
  have ms_CM : PySem.W.nsIn K mainGlobals "super" = some none := of_decide_eq_true (ex_at c.more (i := 20) (b := decide (PySem.W.nsIn K mainGlobals "super" = some none)) rfl)
  obtain ⟨cc_CM, dV_CM, ih_CM⟩ := errD_ok (d := ed_CM) hfile (ini_at c.ini (i := 0) rfl) (ex_at c.more (i := 21) (b := ed_CM.ok K) rfl)
  have EC_CM : PySem.ErrX.ErrC K mg "TooMany" CM := ⟨PySem.W.mg_of X G aC_CM, ei_CM, eo_CM, sa_CM, ga_CM, gg_CM, kC_CM, ex_CM, ty_CM, hd_CM⟩
  have cl_CM := ih_CM.cell
  rw [show He.ga K ed_CM.x = CM from e_CM] at cl_CM
  have IC_CM : PySem.ErrX.IniC l.prog K mg CM (iniA K "TooMany") cc_CM "TooMany.__init__" "many" s_TooMany___init__ dV_CM := ⟨iC_CM, tC_CM, ih_CM.fn, cl_CM, nf_CM, su_CM, sA_CM, sf_CM, th_CM, PySem.W.mg_none_of X G ms_CM, htop⟩
  have XC_CM : ExcC K CM := ⟨ga_CM, gg_CM, ex_CM, hd_CM, ha_CM, hn_CM, ht_CM, hm_CM⟩
  have xMM : PySem.W.exmOne K (.ref (He.ga K "TooMany")) (.ref (He.ga K "TooMany")) = some true := of_decide_eq_true (ex_at c.more (i := 22) (b := decide (PySem.W.exmOne K (.ref (He.ga K "TooMany")) (.ref (He.ga K "TooMany")) = some true)) rfl)
  rw [e_CM] at xMM
  have nW_x : PySem.W.excIn K (He.ga K "NoWords") PySem.ErrX.bmA "ArithmeticError.__new__" = true := of_decide_eq_true (ex_at c.more (i := 23) (b := decide (PySem.W.excIn K (He.ga K "NoWords") PySem.ErrX.bmA "ArithmeticError.__new__" = true)) rfl)
  rw [e_CW] at nW_x
  have nW_k : PySem.W.keepIn K (.ref (He.ga K "NoWords")) = true := of_decide_eq_true (ex_at c.more (i := 24) (b := decide (PySem.W.keepIn K (.ref (He.ga K "NoWords")) = true)) rfl)
  rw [e_CW] at nW_k
  have nW_b : PySem.W.subIn K (.ref (He.ga K "NoWords")) (.type "BaseException") = some true := of_decide_eq_true (ex_at c.more (i := 25) (b := decide (PySem.W.subIn K (.ref (He.ga K "NoWords")) (.type "BaseException") = some true)) rfl)
  rw [e_CW] at nW_b
  have nW_t : PySem.W.typeIn K (.ref (He.ga K "NoWords")) = some (.type "type") := of_decide_eq_true (ex_at c.more (i := 26) (b := decide (PySem.W.typeIn K (.ref (He.ga K "NoWords")) = some (.type "type"))) rfl)
  rw [e_CW] at nW_t
  have nW_ga : PySem.W.findIn K (.ref (He.ga K "NoWords")) "__getattribute__" = some (some (.builtin "BaseException.__getattribute__")) := of_decide_eq_true (ex_at c.more (i := 27) (b := decide (PySem.W.findIn K (.ref (He.ga K "NoWords")) "__getattribute__" = some (some (.builtin "BaseException.__getattribute__")))) rfl)
  rw [e_CW] at nW_ga
  have nW_gg : PySem.W.findIn K (.ref (He.ga K "NoWords")) "__getattr__" = some none := of_decide_eq_true (ex_at c.more (i := 28) (b := decide (PySem.W.findIn K (.ref (He.ga K "NoWords")) "__getattr__" = some none)) rfl)
  rw [e_CW] at nW_gg
  have nW_hd : PySem.W.hasDictIn K (He.ga K "NoWords") = true := of_decide_eq_true (ex_at c.more (i := 29) (b := decide (PySem.W.hasDictIn K (He.ga K "NoWords") = true)) rfl)
  rw [e_CW] at nW_hd
  have nW_ha : PySem.W.findIn K (.ref (He.ga K "NoWords")) "__class__" = some (some (.builtin "object.__class__")) := of_decide_eq_true (ex_at c.more (i := 30) (b := decide (PySem.W.findIn K (.ref (He.ga K "NoWords")) "__class__" = some (some (.builtin "object.__class__")))) rfl)
  rw [e_CW] at nW_ha
  have nW_hn : PySem.W.specialIn K (.builtin "object.__class__") "__get__" = some (some (.builtin "getset_descriptor.__get__")) := of_decide_eq_true (ex_at c.more (i := 31) (b := decide (PySem.W.specialIn K (.builtin "object.__class__") "__get__" = some (some (.builtin "getset_descriptor.__get__")))) rfl)
  have nW_ht : PySem.W.takesIn K (.builtin "object.__class__") = some true := of_decide_eq_true (ex_at c.more (i := 32) (b := decide (PySem.W.takesIn K (.builtin "object.__class__") = some true)) rfl)
  have nW_hm : PySem.W.mroIn K (He.ga K "NoWords") (.type "object") = some true := of_decide_eq_true (ex_at c.more (i := 33) (b := decide (PySem.W.mroIn K (He.ga K "NoWords") (.type "object") = some true)) rfl)
  rw [e_CW] at nW_hm
  have xm_W : PySem.W.exmOne K (.ref (He.ga K "NoWords")) (.ref (He.ga K "EchoError")) = some true := of_decide_eq_true (ex_at c.more (i := 34) (b := decide (PySem.W.exmOne K (.ref (He.ga K "NoWords")) (.ref (He.ga K "EchoError")) = some true)) rfl)
  rw [e_CE] at xm_W
  rw [e_CW] at xm_W
  have ki_WW : PySem.W.kitOne K (.ref (He.ga K "NoWords")) (.ref (He.ga K "NoWords")) = some true := of_decide_eq_true (ex_at c.more (i := 35) (b := decide (PySem.W.kitOne K (.ref (He.ga K "NoWords")) (.ref (He.ga K "NoWords")) = some true)) rfl)
  rw [e_CW] at ki_WW
  have ki_WS : PySem.W.kitOne K (.ref (He.ga K "NoWords")) (.ref (He.ga K "NoState")) = some false := of_decide_eq_true (ex_at c.more (i := 36) (b := decide (PySem.W.kitOne K (.ref (He.ga K "NoWords")) (.ref (He.ga K "NoState")) = some false)) rfl)
  rw [e_CW] at ki_WS
  rw [e_CS] at ki_WS
  have ki_WM : PySem.W.kitOne K (.ref (He.ga K "NoWords")) (.ref (He.ga K "TooMany")) = some false := of_decide_eq_true (ex_at c.more (i := 37) (b := decide (PySem.W.kitOne K (.ref (He.ga K "NoWords")) (.ref (He.ga K "TooMany")) = some false)) rfl)
  rw [e_CW] at ki_WM
  rw [e_CM] at ki_WM
  have ki_WU : PySem.W.kitOne K (.ref (He.ga K "NoWords")) (.ref (He.ga K "Unfit")) = some false := of_decide_eq_true (ex_at c.more (i := 38) (b := decide (PySem.W.kitOne K (.ref (He.ga K "NoWords")) (.ref (He.ga K "Unfit")) = some false)) rfl)
  rw [e_CW] at ki_WU
  rw [e_CU] at ki_WU
  have nS_x : PySem.W.excIn K (He.ga K "NoState") PySem.ErrX.bmA "ArithmeticError.__new__" = true := of_decide_eq_true (ex_at c.more (i := 39) (b := decide (PySem.W.excIn K (He.ga K "NoState") PySem.ErrX.bmA "ArithmeticError.__new__" = true)) rfl)
  rw [e_CS] at nS_x
  have nS_k : PySem.W.keepIn K (.ref (He.ga K "NoState")) = true := of_decide_eq_true (ex_at c.more (i := 40) (b := decide (PySem.W.keepIn K (.ref (He.ga K "NoState")) = true)) rfl)
  rw [e_CS] at nS_k
  have nS_b : PySem.W.subIn K (.ref (He.ga K "NoState")) (.type "BaseException") = some true := of_decide_eq_true (ex_at c.more (i := 41) (b := decide (PySem.W.subIn K (.ref (He.ga K "NoState")) (.type "BaseException") = some true)) rfl)
  rw [e_CS] at nS_b
  have nS_t : PySem.W.typeIn K (.ref (He.ga K "NoState")) = some (.type "type") := of_decide_eq_true (ex_at c.more (i := 42) (b := decide (PySem.W.typeIn K (.ref (He.ga K "NoState")) = some (.type "type"))) rfl)
  rw [e_CS] at nS_t
  have nS_ga : PySem.W.findIn K (.ref (He.ga K "NoState")) "__getattribute__" = some (some (.builtin "BaseException.__getattribute__")) := of_decide_eq_true (ex_at c.more (i := 43) (b := decide (PySem.W.findIn K (.ref (He.ga K "NoState")) "__getattribute__" = some (some (.builtin "BaseException.__getattribute__")))) rfl)
  rw [e_CS] at nS_ga
  have nS_gg : PySem.W.findIn K (.ref (He.ga K "NoState")) "__getattr__" = some none := of_decide_eq_true (ex_at c.more (i := 44) (b := decide (PySem.W.findIn K (.ref (He.ga K "NoState")) "__getattr__" = some none)) rfl)
  rw [e_CS] at nS_gg
  have nS_hd : PySem.W.hasDictIn K (He.ga K "NoState") = true := of_decide_eq_true (ex_at c.more (i := 45) (b := decide (PySem.W.hasDictIn K (He.ga K "NoState") = true)) rfl)
  rw [e_CS] at nS_hd
  have nS_ha : PySem.W.findIn K (.ref (He.ga K "NoState")) "__class__" = some (some (.builtin "object.__class__")) := of_decide_eq_true (ex_at c.more (i := 46) (b := decide (PySem.W.findIn K (.ref (He.ga K "NoState")) "__class__" = some (some (.builtin "object.__class__")))) rfl)
  rw [e_CS] at nS_ha
  have nS_hn : PySem.W.specialIn K (.builtin "object.__class__") "__get__" = some (some (.builtin "getset_descriptor.__get__")) := of_decide_eq_true (ex_at c.more (i := 47) (b := decide (PySem.W.specialIn K (.builtin "object.__class__") "__get__" = some (some (.builtin "getset_descriptor.__get__")))) rfl)
  have nS_ht : PySem.W.takesIn K (.builtin "object.__class__") = some true := of_decide_eq_true (ex_at c.more (i := 48) (b := decide (PySem.W.takesIn K (.builtin "object.__class__") = some true)) rfl)
  have nS_hm : PySem.W.mroIn K (He.ga K "NoState") (.type "object") = some true := of_decide_eq_true (ex_at c.more (i := 49) (b := decide (PySem.W.mroIn K (He.ga K "NoState") (.type "object") = some true)) rfl)
  rw [e_CS] at nS_hm
  have xm_S : PySem.W.exmOne K (.ref (He.ga K "NoState")) (.ref (He.ga K "EchoError")) = some true := of_decide_eq_true (ex_at c.more (i := 50) (b := decide (PySem.W.exmOne K (.ref (He.ga K "NoState")) (.ref (He.ga K "EchoError")) = some true)) rfl)
  rw [e_CE] at xm_S
  rw [e_CS] at xm_S
  have ki_SW : PySem.W.kitOne K (.ref (He.ga K "NoState")) (.ref (He.ga K "NoWords")) = some false := of_decide_eq_true (ex_at c.more (i := 51) (b := decide (PySem.W.kitOne K (.ref (He.ga K "NoState")) (.ref (He.ga K "NoWords")) = some false)) rfl)
  rw [e_CW] at ki_SW
  rw [e_CS] at ki_SW
  have ki_SS : PySem.W.kitOne K (.ref (He.ga K "NoState")) (.ref (He.ga K "NoState")) = some true := of_decide_eq_true (ex_at c.more (i := 52) (b := decide (PySem.W.kitOne K (.ref (He.ga K "NoState")) (.ref (He.ga K "NoState")) = some true)) rfl)
  rw [e_CS] at ki_SS
  have ki_SM : PySem.W.kitOne K (.ref (He.ga K "NoState")) (.ref (He.ga K "TooMany")) = some false := of_decide_eq_true (ex_at c.more (i := 53) (b := decide (PySem.W.kitOne K (.ref (He.ga K "NoState")) (.ref (He.ga K "TooMany")) = some false)) rfl)
  rw [e_CS] at ki_SM
  rw [e_CM] at ki_SM
  have ki_SU : PySem.W.kitOne K (.ref (He.ga K "NoState")) (.ref (He.ga K "Unfit")) = some false := of_decide_eq_true (ex_at c.more (i := 54) (b := decide (PySem.W.kitOne K (.ref (He.ga K "NoState")) (.ref (He.ga K "Unfit")) = some false)) rfl)
  rw [e_CS] at ki_SU
  rw [e_CU] at ki_SU
  obtain ⟨fd_Form___init__, F0_Form___init__⟩ := c.t.d.def_ 87 (d := dd_Form___init__) rfl
  have F_Form___init__ : FunD K "__init__" "Form.__init__" (defArgs s_Form___init__) (defBody s_Form___init__) (defScope s_Form___init__) [V.non, V.int 0, V.str "half", V.str "wrap"] [] (He.ma K (He.ga K "Form") "__init__") fd_Form___init__ := F0_Form___init__
  have k_Form___init__ := F_Form___init__.kp
  have m0_Form___init__ : Meth K C "__init__" (He.ma K (He.ga K "Form") "__init__") := by
    rw [← e_C]
    exact He.meth_ok (c.t.d.fact 108 (f := .meth "Form" "__init__") rfl)
  have a_Form___init__ := m0_Form___init__.1
  have i_Form___init__ := m0_Form___init__.2
  obtain ⟨ds_Form4, dv_Form4, b_Form4⟩ := F_Form___init__.binds1 (ps := ["self", "width", "point", "manner", "ends"]) 5 4 (by simp) rfl fun _ _ _ _ _ _ _ us its h1 h2 => match us, its, h1, h2 with | [_, _, _, _, _], [_, _, _, _], _, _ => ⟨_, rfl, rfl⟩
  cases dv_Form4
  obtain ⟨tk_LEAST_WIDTH, gm_LEAST_WIDTH⟩ := He.int_ok X G (c.t.d.fact 109 (f := .int "LEAST_WIDTH" 2) rfl)
  obtain ⟨tk_GREATEST_WIDTH, gm_GREATEST_WIDTH⟩ := He.int_ok X G (c.t.d.fact 110 (f := .int "GREATEST_WIDTH" 64) rfl)
  obtain ⟨tk_GREATEST_POINT, gm_GREATEST_POINT⟩ := He.int_ok X G (c.t.d.fact 111 (f := .int "GREATEST_POINT" 64) rfl)
  obtain ⟨tk_MOST_FORMS, gm_MOST_FORMS⟩ := He.int_ok X G (c.t.d.fact 112 (f := .int "MOST_FORMS" 12) rfl)
  obtain ⟨tk_MOST_ROWS, gm_MOST_ROWS⟩ := He.int_ok X G (c.t.d.fact 113 (f := .int "MOST_ROWS" 60) rfl)
  obtain ⟨tk_MOST_HOLDS, gm_MOST_HOLDS⟩ := He.int_ok X G (c.t.d.fact 114 (f := .int "MOST_HOLDS" 6) rfl)
  obtain ⟨tk_FACTOR_END, gm_FACTOR_END⟩ := He.int_ok X G (c.t.d.fact 115 (f := .int "FACTOR_END" 9223372036854775808) rfl)
  obtain ⟨tk_GREATEST_SHIFT, gm_GREATEST_SHIFT⟩ := He.int_ok X G (c.t.d.fact 116 (f := .int "GREATEST_SHIFT" 64) rfl)
  obtain ⟨tk_GREATEST_ROW_POINT, gm_GREATEST_ROW_POINT⟩ := He.int_ok X G (c.t.d.fact 117 (f := .int "GREATEST_ROW_POINT" 200) rfl)
  obtain ⟨tk_MOST_ROUNDS, gm_MOST_ROUNDS⟩ := He.int_ok X G (c.t.d.fact 118 (f := .int "MOST_ROUNDS" 40) rfl)
  have gm_ENDS : mg "ENDS" = some (.ref A_ENDS) := by
    rw [← e_A_ENDS]
    exact He.glo_ok X G (c.t.d.fact 119 (f := .glo "ENDS") rfl)
  have T_ENDS : ∀ H, SqT K H A_ENDS [V.str "wrap", V.str "stop"] := by
    rw [← e_A_ENDS]
    exact fun H => He.tupB_ok (ex_at c.more (i := 55) (b := He.tupB K "ENDS" [.str "wrap", .str "stop"]) rfl) H
  have gm_MANNERS : mg "MANNERS" = some (.ref A_MANNERS) := by
    rw [← e_A_MANNERS]
    exact He.glo_ok X G (c.t.d.fact 120 (f := .glo "MANNERS") rfl)
  obtain ⟨es_MANNERS, dn_MANNERS, KD_MANNERS⟩ := c.t.tab 0 (t := (fun K => He.ga K "MANNERS", ["down", "up", "in", "out", "half", "even", "far"])) rfl
  replace KD_MANNERS : KDict K w A_MANNERS es_MANNERS dn_MANNERS := by
    rw [← e_A_MANNERS]
    exact KD_MANNERS
  have d_MANNERS_down : PySem.W.nsIn K (He.ga K "MANNERS") "down" = some (some (.ref (He.ga K "downward"))) := of_decide_eq_true (ex_at c.more (i := 56) (b := decide (PySem.W.nsIn K (He.ga K "MANNERS") "down" = some (some (.ref (He.ga K "downward"))))) rfl)
  rw [e_A_MANNERS] at d_MANNERS_down
  have d_MANNERS_up : PySem.W.nsIn K (He.ga K "MANNERS") "up" = some (some (.ref (He.ga K "upward"))) := of_decide_eq_true (ex_at c.more (i := 57) (b := decide (PySem.W.nsIn K (He.ga K "MANNERS") "up" = some (some (.ref (He.ga K "upward"))))) rfl)
  rw [e_A_MANNERS] at d_MANNERS_up
  have d_MANNERS_in : PySem.W.nsIn K (He.ga K "MANNERS") "in" = some (some (.ref (He.ga K "inward"))) := of_decide_eq_true (ex_at c.more (i := 58) (b := decide (PySem.W.nsIn K (He.ga K "MANNERS") "in" = some (some (.ref (He.ga K "inward"))))) rfl)
  rw [e_A_MANNERS] at d_MANNERS_in
  have d_MANNERS_out : PySem.W.nsIn K (He.ga K "MANNERS") "out" = some (some (.ref (He.ga K "outward"))) := of_decide_eq_true (ex_at c.more (i := 59) (b := decide (PySem.W.nsIn K (He.ga K "MANNERS") "out" = some (some (.ref (He.ga K "outward"))))) rfl)
  rw [e_A_MANNERS] at d_MANNERS_out
  have d_MANNERS_half : PySem.W.nsIn K (He.ga K "MANNERS") "half" = some (some (.ref (He.ga K "nearest_greater"))) := of_decide_eq_true (ex_at c.more (i := 60) (b := decide (PySem.W.nsIn K (He.ga K "MANNERS") "half" = some (some (.ref (He.ga K "nearest_greater"))))) rfl)
  rw [e_A_MANNERS] at d_MANNERS_half
  have d_MANNERS_even : PySem.W.nsIn K (He.ga K "MANNERS") "even" = some (some (.ref (He.ga K "nearest_even"))) := of_decide_eq_true (ex_at c.more (i := 61) (b := decide (PySem.W.nsIn K (He.ga K "MANNERS") "even" = some (some (.ref (He.ga K "nearest_even"))))) rfl)
  rw [e_A_MANNERS] at d_MANNERS_even
  have d_MANNERS_far : PySem.W.nsIn K (He.ga K "MANNERS") "far" = some (some (.ref (He.ga K "nearest_far"))) := of_decide_eq_true (ex_at c.more (i := 62) (b := decide (PySem.W.nsIn K (He.ga K "MANNERS") "far" = some (some (.ref (He.ga K "nearest_far"))))) rfl)
  rw [e_A_MANNERS] at d_MANNERS_far
  have gm_POINT_RULES : mg "POINT_RULES" = some (.ref A_POINT_RULES) := by
    rw [← e_A_POINT_RULES]
    exact He.glo_ok X G (c.t.d.fact 121 (f := .glo "POINT_RULES") rfl)
  obtain ⟨es_POINT_RULES, dn_POINT_RULES, KD_POINT_RULES⟩ := c.t.tab 1 (t := (fun K => He.ga K "POINT_RULES", ["in", "old", "times", "plus", "less", "move", "keep"])) rfl
  replace KD_POINT_RULES : KDict K w A_POINT_RULES es_POINT_RULES dn_POINT_RULES := by
    rw [← e_A_POINT_RULES]
    exact KD_POINT_RULES
  have d_POINT_RULES_in : PySem.W.nsIn K (He.ga K "POINT_RULES") "in" = some (some (.ref (He.ga K "in_point"))) := of_decide_eq_true (ex_at c.more (i := 63) (b := decide (PySem.W.nsIn K (He.ga K "POINT_RULES") "in" = some (some (.ref (He.ga K "in_point"))))) rfl)
  rw [e_A_POINT_RULES] at d_POINT_RULES_in
  have d_POINT_RULES_old : PySem.W.nsIn K (He.ga K "POINT_RULES") "old" = some (some (.ref (He.ga K "old_point"))) := of_decide_eq_true (ex_at c.more (i := 64) (b := decide (PySem.W.nsIn K (He.ga K "POINT_RULES") "old" = some (some (.ref (He.ga K "old_point"))))) rfl)
  rw [e_A_POINT_RULES] at d_POINT_RULES_old
  have d_POINT_RULES_times : PySem.W.nsIn K (He.ga K "POINT_RULES") "times" = some (some (.ref (He.ga K "times_point"))) := of_decide_eq_true (ex_at c.more (i := 65) (b := decide (PySem.W.nsIn K (He.ga K "POINT_RULES") "times" = some (some (.ref (He.ga K "times_point"))))) rfl)
  rw [e_A_POINT_RULES] at d_POINT_RULES_times
  have d_POINT_RULES_plus : PySem.W.nsIn K (He.ga K "POINT_RULES") "plus" = some (some (.ref (He.ga K "sum_point"))) := of_decide_eq_true (ex_at c.more (i := 66) (b := decide (PySem.W.nsIn K (He.ga K "POINT_RULES") "plus" = some (some (.ref (He.ga K "sum_point"))))) rfl)
  rw [e_A_POINT_RULES] at d_POINT_RULES_plus
  have d_POINT_RULES_less : PySem.W.nsIn K (He.ga K "POINT_RULES") "less" = some (some (.ref (He.ga K "sum_point"))) := of_decide_eq_true (ex_at c.more (i := 67) (b := decide (PySem.W.nsIn K (He.ga K "POINT_RULES") "less" = some (some (.ref (He.ga K "sum_point"))))) rfl)
  rw [e_A_POINT_RULES] at d_POINT_RULES_less
  have d_POINT_RULES_move : PySem.W.nsIn K (He.ga K "POINT_RULES") "move" = some (some (.ref (He.ga K "move_point"))) := of_decide_eq_true (ex_at c.more (i := 68) (b := decide (PySem.W.nsIn K (He.ga K "POINT_RULES") "move" = some (some (.ref (He.ga K "move_point"))))) rfl)
  rw [e_A_POINT_RULES] at d_POINT_RULES_move
  have d_POINT_RULES_keep : PySem.W.nsIn K (He.ga K "POINT_RULES") "keep" = some (some (.ref (He.ga K "keep_point"))) := of_decide_eq_true (ex_at c.more (i := 69) (b := decide (PySem.W.nsIn K (He.ga K "POINT_RULES") "keep" = some (some (.ref (He.ga K "keep_point"))))) rfl)
  rw [e_A_POINT_RULES] at d_POINT_RULES_keep
  have gm_ROW_LENGTHS : mg "ROW_LENGTHS" = some (.ref A_ROW_LENGTHS) := by
    rw [← e_A_ROW_LENGTHS]
    exact He.glo_ok X G (c.t.d.fact 122 (f := .glo "ROW_LENGTHS") rfl)
  obtain ⟨es_ROW_LENGTHS, dn_ROW_LENGTHS, KD_ROW_LENGTHS⟩ := c.t.tab 2 (t := (fun K => He.ga K "ROW_LENGTHS", ["in", "old", "times", "plus", "less", "move", "keep"])) rfl
  replace KD_ROW_LENGTHS : KDict K w A_ROW_LENGTHS es_ROW_LENGTHS dn_ROW_LENGTHS := by
    rw [← e_A_ROW_LENGTHS]
    exact KD_ROW_LENGTHS
  obtain ⟨tk_ROW_LENGTHS_in, d_ROW_LENGTHS_in⟩ : ∃ t, PySem.W.nsIn K A_ROW_LENGTHS "in" = some (some (.int 1 t)) := by
    rw [← e_A_ROW_LENGTHS]
    exact val_int (i := 0) (ex_at c.more (i := 70) (b := He.valsB K (He.ga K "ROW_LENGTHS") [("in", .int 1), ("old", .int 2), ("times", .int 4), ("plus", .int 3), ("less", .int 3), ("move", .int 3), ("keep", .int 3)]) rfl) rfl
  obtain ⟨tk_ROW_LENGTHS_old, d_ROW_LENGTHS_old⟩ : ∃ t, PySem.W.nsIn K A_ROW_LENGTHS "old" = some (some (.int 2 t)) := by
    rw [← e_A_ROW_LENGTHS]
    exact val_int (i := 1) (ex_at c.more (i := 70) (b := He.valsB K (He.ga K "ROW_LENGTHS") [("in", .int 1), ("old", .int 2), ("times", .int 4), ("plus", .int 3), ("less", .int 3), ("move", .int 3), ("keep", .int 3)]) rfl) rfl
  obtain ⟨tk_ROW_LENGTHS_times, d_ROW_LENGTHS_times⟩ : ∃ t, PySem.W.nsIn K A_ROW_LENGTHS "times" = some (some (.int 4 t)) := by
    rw [← e_A_ROW_LENGTHS]
    exact val_int (i := 2) (ex_at c.more (i := 70) (b := He.valsB K (He.ga K "ROW_LENGTHS") [("in", .int 1), ("old", .int 2), ("times", .int 4), ("plus", .int 3), ("less", .int 3), ("move", .int 3), ("keep", .int 3)]) rfl) rfl
  obtain ⟨tk_ROW_LENGTHS_plus, d_ROW_LENGTHS_plus⟩ : ∃ t, PySem.W.nsIn K A_ROW_LENGTHS "plus" = some (some (.int 3 t)) := by
    rw [← e_A_ROW_LENGTHS]
    exact val_int (i := 3) (ex_at c.more (i := 70) (b := He.valsB K (He.ga K "ROW_LENGTHS") [("in", .int 1), ("old", .int 2), ("times", .int 4), ("plus", .int 3), ("less", .int 3), ("move", .int 3), ("keep", .int 3)]) rfl) rfl
  obtain ⟨tk_ROW_LENGTHS_less, d_ROW_LENGTHS_less⟩ : ∃ t, PySem.W.nsIn K A_ROW_LENGTHS "less" = some (some (.int 3 t)) := by
    rw [← e_A_ROW_LENGTHS]
    exact val_int (i := 4) (ex_at c.more (i := 70) (b := He.valsB K (He.ga K "ROW_LENGTHS") [("in", .int 1), ("old", .int 2), ("times", .int 4), ("plus", .int 3), ("less", .int 3), ("move", .int 3), ("keep", .int 3)]) rfl) rfl
  obtain ⟨tk_ROW_LENGTHS_move, d_ROW_LENGTHS_move⟩ : ∃ t, PySem.W.nsIn K A_ROW_LENGTHS "move" = some (some (.int 3 t)) := by
    rw [← e_A_ROW_LENGTHS]
    exact val_int (i := 5) (ex_at c.more (i := 70) (b := He.valsB K (He.ga K "ROW_LENGTHS") [("in", .int 1), ("old", .int 2), ("times", .int 4), ("plus", .int 3), ("less", .int 3), ("move", .int 3), ("keep", .int 3)]) rfl) rfl
  obtain ⟨tk_ROW_LENGTHS_keep, d_ROW_LENGTHS_keep⟩ : ∃ t, PySem.W.nsIn K A_ROW_LENGTHS "keep" = some (some (.int 3 t)) := by
    rw [← e_A_ROW_LENGTHS]
    exact val_int (i := 6) (ex_at c.more (i := 70) (b := He.valsB K (He.ga K "ROW_LENGTHS") [("in", .int 1), ("old", .int 2), ("times", .int 4), ("plus", .int 3), ("less", .int 3), ("move", .int 3), ("keep", .int 3)]) rfl) rfl
  have fx_ha : PySem.W.findIn K (.ref (He.ga K "Form")) "__class__" = some (some (.builtin "object.__class__")) := of_decide_eq_true (ex_at c.more (i := 71) (b := decide (PySem.W.findIn K (.ref (He.ga K "Form")) "__class__" = some (some (.builtin "object.__class__")))) rfl)
  rw [e_C] at fx_ha
  have fx_hn : PySem.W.specialIn K (.builtin "object.__class__") "__get__" = some (some (.builtin "getset_descriptor.__get__")) := of_decide_eq_true (ex_at c.more (i := 72) (b := decide (PySem.W.specialIn K (.builtin "object.__class__") "__get__" = some (some (.builtin "getset_descriptor.__get__")))) rfl)
  have fx_ht : PySem.W.takesIn K (.builtin "object.__class__") = some true := of_decide_eq_true (ex_at c.more (i := 73) (b := decide (PySem.W.takesIn K (.builtin "object.__class__") = some true)) rfl)
  have fx_hm : PySem.W.mroIn K (He.ga K "Form") (.type "object") = some true := of_decide_eq_true (ex_at c.more (i := 74) (b := decide (PySem.W.mroIn K (He.ga K "Form") (.type "object") = some true)) rfl)
  rw [e_C] at fx_hm
  have fx_kC : PySem.W.kitOne K (.ref (He.ga K "Form")) (.ref (He.ga K "Form")) = some true := of_decide_eq_true (ex_at c.more (i := 75) (b := decide (PySem.W.kitOne K (.ref (He.ga K "Form")) (.ref (He.ga K "Form")) = some true)) rfl)
  rw [e_C] at fx_kC
  have fy_ha : PySem.W.findIn K (.ref (He.ga K "Net")) "__class__" = some (some (.builtin "object.__class__")) := of_decide_eq_true (ex_at c.more (i := 76) (b := decide (PySem.W.findIn K (.ref (He.ga K "Net")) "__class__" = some (some (.builtin "object.__class__")))) rfl)
  rw [e_CN] at fy_ha
  have fy_hm : PySem.W.mroIn K (He.ga K "Net") (.type "object") = some true := of_decide_eq_true (ex_at c.more (i := 77) (b := decide (PySem.W.mroIn K (He.ga K "Net") (.type "object") = some true)) rfl)
  rw [e_CN] at fy_hm
  have fy_kC : PySem.W.kitOne K (.ref (He.ga K "Net")) (.ref (He.ga K "Net")) = some true := of_decide_eq_true (ex_at c.more (i := 78) (b := decide (PySem.W.kitOne K (.ref (He.ga K "Net")) (.ref (He.ga K "Net")) = some true)) rfl)
  rw [e_CN] at fy_kC
  have zf_isinstance : mg "isinstance" = none := He.free_ok X G (c.t.d.fact 123 (f := .free "isinstance") rfl)
  have zf_int : mg "int" = none := He.free_ok X G (c.t.d.fact 124 (f := .free "int") rfl)
  have zf_bool : mg "bool" = none := He.free_ok X G (c.t.d.fact 125 (f := .free "bool") rfl)
  have zf_abs : mg "abs" = none := He.free_ok X G (c.t.d.fact 126 (f := .free "abs") rfl)
  have zf_str : mg "str" = none := He.free_ok X G (c.t.d.fact 127 (f := .free "str") rfl)
  have zf_len : mg "len" = none := He.free_ok X G (c.t.d.fact 128 (f := .free "len") rfl)
  have zf_max : mg "max" = none := He.free_ok X G (c.t.d.fact 129 (f := .free "max") rfl)
  have zf_tuple : mg "tuple" = none := He.free_ok X G (c.t.d.fact 130 (f := .free "tuple") rfl)
  have zf_list : mg "list" = none := He.free_ok X G (c.t.d.fact 131 (f := .free "list") rfl)
  have zf_enumerate : mg "enumerate" = none := He.free_ok X G (c.t.d.fact 132 (f := .free "enumerate") rfl)
  have zf_min : mg "min" = none := He.free_ok X G (c.t.d.fact 133 (f := .free "min") rfl)
  have zf_zip : mg "zip" = none := He.free_ok X G (c.t.d.fact 134 (f := .free "zip") rfl)
  have zf_all : mg "all" = none := He.free_ok X G (c.t.d.fact 135 (f := .free "all") rfl)
  have zf_range : mg "range" = none := He.free_ok X G (c.t.d.fact 136 (f := .free "range") rfl)
  have zf_divmod : mg "divmod" = none := He.free_ok X G (c.t.d.fact 137 (f := .free "divmod") rfl)
  have zf_sorted : mg "sorted" = none := He.free_ok X G (c.t.d.fact 138 (f := .free "sorted") rfl)
  have kb_may := Fun.kbn (n := 0) (ks := ["holds", "high", "low", "net"]) (ps := ["net", "low", "high", "holds"]) F_may_over (g := fun us ws => us ++ ws.reverse) (gV := fun vs zs => vs ++ zs.reverse) (fun r s => Vals.append r (Vals.rev s)) fun _ _ _ _ _ _ us ws h1 h2 => match us, ws, h1, h2 with | [], [_, _, _, _], _, _ => rfl
  have z : Zs mg := ⟨zf_isinstance, zf_int, zf_bool, zf_abs, zf_str, zf_len, zf_max, zf_tuple, zf_list, zf_enumerate, zf_min, zf_zip, zf_all, zf_range, zf_divmod, zf_sorted⟩
  have e := hfa.symm.trans (PySem.W.mg_of X G a_law)
  cases e
  have FL_law : FunD K "law" "law" (defArgs s_law) (defBody s_law) (defScope s_law) [] [] (He.ga K "law") fd_law := F0_law
  have bl := FunD.bindsA (ps := ["_law_script"]) FL_law fun _ _ _ _ _ _ us hl => match us, hl with | [_], _ => rfl
  have pick : ∀ {Q : Addr × Addr → Prop}, (∀ p ∈ TF, Q (He.cT K p)) → ∀ p ∈ [He.cT K ("law", none)], Q p := fun {Q} h p hp => by
    have e : [He.cT K ("law", none)] = TF.map (He.cT K) := rfl
    rw [e] at hp
    obtain ⟨t, ht, e2⟩ := List.mem_map.mp hp
    rw [← e2]
    exact h t ht
  refine ⟨_, [He.cT K ("law", none)], spLaw60 K (He.cT K ("law", none)).2, pick (Q := fun p => h.get? p.2 = some { cls := .none, data := .fields #[] }) c.empty, pick (Q := fun p => K.lookup p.2 = none) c.out, pick (Q := fun p => PySem.W.CodeHd h p.1 p.2) fun p hp => PySem.W.codeHd_of_K X (c.hd p hp), fun s v => bl s [v] rfl, fun H a ns hl _ hH hS => ⟨a, ns, rfl, hS, hl, (tabs_one (hH _ List.mem_cons_self) tabs_nil), fun _ => rfl⟩, fun base _ _ TBs => ?_⟩
  have TB_0 := TBs _ List.mem_cons_self
  have c_is_whole : Cal l.prog w K mg base 1 "is_whole" ["thing"] _ := ⟨_, _, PySem.W.mg_of X G a_is_whole, k_is_whole, b_is_whole, ok_is_whole (k := 0) F_is_whole z⟩
  have c_downward : Cal l.prog w K mg base 1 "downward" ["top", "bottom"] _ := ⟨_, _, PySem.W.mg_of X G a_downward, k_downward, b_downward, ok_downward (k := 0) F_downward⟩
  have c_upward : Cal l.prog w K mg base 1 "upward" ["top", "bottom"] _ := ⟨_, _, PySem.W.mg_of X G a_upward, k_upward, b_upward, ok_upward (k := 0) F_upward⟩
  have c_nearest_greater : Cal l.prog w K mg base 1 "nearest_greater" ["top", "bottom"] _ := ⟨_, _, PySem.W.mg_of X G a_nearest_greater, k_nearest_greater, b_nearest_greater, ok_nearest_greater (k := 0) F_nearest_greater⟩
  have MM : Mans l.prog w K mg base A_MANNERS es_MANNERS dn_MANNERS := ⟨gm_MANNERS, KD_MANNERS, fun m => match m with
    | .down => ⟨_, _, d_MANNERS_down, k_downward, b_downward, ok_downward (k := 1) F_downward⟩
    | .up => ⟨_, _, d_MANNERS_up, k_upward, b_upward, ok_upward (k := 1) F_upward⟩
    | .inn => ⟨_, _, d_MANNERS_in, k_inward, b_inward, ok_inward F_inward c_downward c_upward⟩
    | .out => ⟨_, _, d_MANNERS_out, k_outward, b_outward, ok_outward F_outward c_downward c_upward⟩
    | .half => ⟨_, _, d_MANNERS_half, k_nearest_greater, b_nearest_greater, ok_nearest_greater (k := 1) F_nearest_greater⟩
    | .even => ⟨_, _, d_MANNERS_even, k_nearest_even, b_nearest_even, ok_nearest_even F_nearest_even c_nearest_greater⟩
    | .far => ⟨_, _, d_MANNERS_far, k_nearest_far, b_nearest_far, ok_nearest_far F_nearest_far c_nearest_greater⟩⟩
  have c_is_manner : Cal l.prog w K mg base 1 "is_manner" ["thing"] _ := ⟨_, _, PySem.W.mg_of X G a_is_manner, k_is_manner, b_is_manner, ok_is_manner (k := 0) MM F_is_manner z⟩
  have c_rounded : Cal l.prog w K mg base 3 "rounded" ["value", "manner"] _ := ⟨_, _, PySem.W.mg_of X G a_rounded, k_rounded, b_rounded, ok_rounded MM F_rounded c_is_manner⟩
  have Z : FCst K mg A_ENDS := ⟨⟨_, gm_LEAST_WIDTH⟩, ⟨_, gm_GREATEST_WIDTH⟩, ⟨_, gm_GREATEST_POINT⟩, gm_ENDS, T_ENDS⟩
  have NC : NCst mg := ⟨⟨_, gm_FACTOR_END⟩, ⟨_, gm_GREATEST_SHIFT⟩, ⟨_, gm_GREATEST_ROW_POINT⟩, ⟨_, gm_MOST_FORMS⟩, ⟨_, gm_MOST_ROWS⟩, ⟨_, gm_MOST_HOLDS⟩⟩
  have c_is_width : Cal l.prog w K mg base 2 "is_width" ["thing"] _ := ⟨_, _, PySem.W.mg_of X G a_is_width, k_is_width, b_is_width, ok_is_width Z F_is_width c_is_whole⟩
  have c_is_point : Cal l.prog w K mg base 2 "is_point" ["thing"] _ := ⟨_, _, PySem.W.mg_of X G a_is_point, k_is_point, b_is_point, ok_is_point Z F_is_point z c_is_whole⟩
  have c_is_ends : Cal l.prog w K mg base 1 "is_ends" ["thing"] _ := ⟨_, _, PySem.W.mg_of X G a_is_ends, k_is_ends, b_is_ends, ok_is_ends (k := 0) Z F_is_ends z⟩
  have T : FTxt K mg C := ⟨⟨pg_C, hd_C, po_C, sa_C⟩, n_C_width, n_C_point, n_C_manner, n_C_ends⟩
  have TN : NTxt K mg CN := ⟨⟨pg_CN, hd_CN, po_CN, sa_CN⟩, n_CN_form_list, n_CN_enters_at, n_CN_row_list, n_CN_hold_list, n_CN_out_at, n_CN_point_list⟩
  have IC : IsC K mg C := ⟨PySem.W.mg_of X G aC_C, fx_ha, fx_hn, fx_ht, fx_hm, fx_kC⟩
  have c_Form_4 : CalC l.prog w K mg base 3 "Form" C ["self", "width", "point", "manner", "ends"] [] _ := ⟨_, _, _, ⟨mk_C, a_Form___init__, i_Form___init__, kc_C⟩, PySem.W.mg_of X G aC_C, .nil, b_Form4, ok_Form___init__ T F_Form___init__ c_is_width c_is_point c_is_manner c_is_ends⟩
  have m_least : CalM l.prog w K mg base 1 C "least" ["self"] _ := ⟨_, _, ⟨a_Form_least, i_Form_least, k_Form_least⟩, b_Form_least, ok_Form_least (k := 0) T F_Form_least⟩
  have m_greatest : CalM l.prog w K mg base 1 C "greatest" ["self"] _ := ⟨_, _, ⟨a_Form_greatest, i_Form_greatest, k_Form_greatest⟩, b_Form_greatest, ok_Form_greatest (k := 0) T F_Form_greatest⟩
  have m_has : CalM l.prog w K mg base 2 C "has" ["self", "thing"] _ := ⟨_, _, ⟨a_Form_has, i_Form_has, k_Form_has⟩, b_Form_has, ok_Form_has T F_Form_has c_is_whole m_least m_greatest⟩
  have m_word_for : CalM l.prog w K mg base 3 C "word_for" ["self", "number"] _ := ⟨_, _, ⟨a_Form_word_for, i_Form_word_for, k_Form_word_for⟩, b_Form_word_for, ok_Form_word_for T F_Form_word_for m_has m_least m_greatest⟩
  have m_ended : CalM l.prog w K mg base 4 C "ended" ["self", "number"] _ := ⟨_, _, ⟨a_Form_ended, i_Form_ended, k_Form_ended⟩, b_Form_ended, ok_Form_ended T F_Form_ended m_word_for⟩
  have m_kept_at : CalM l.prog w K mg base 5 C "kept_at" ["self", "number", "point"] _ := ⟨_, _, ⟨a_Form_kept_at, i_Form_kept_at, k_Form_kept_at⟩, b_Form_kept_at, ok_Form_kept_at T F_Form_kept_at c_rounded m_ended⟩
  have c_is_place : Cal l.prog w K mg base 2 "is_place" ["thing", "many"] _ := ⟨_, _, PySem.W.mg_of X G a_is_place, k_is_place, b_is_place, ok_is_place F_is_place c_is_whole⟩
  have c_is_factor : Cal l.prog w K mg base 2 "is_factor" ["thing"] _ := ⟨_, _, PySem.W.mg_of X G a_is_factor, k_is_factor, b_is_factor, ok_is_factor NC F_is_factor z c_is_whole⟩
  have RU : Ruls l.prog w K mg base A_POINT_RULES es_POINT_RULES dn_POINT_RULES := ⟨gm_POINT_RULES, KD_POINT_RULES, fun k => match k with
    | .inn => ⟨_, _, d_POINT_RULES_in, k_in_point, b_in_point, ok_in_point F_in_point⟩
    | .old => ⟨_, _, d_POINT_RULES_old, k_old_point, b_old_point, ok_old_point z c_is_place F_old_point⟩
    | .times => ⟨_, _, d_POINT_RULES_times, k_times_point, b_times_point, ok_times_point NC z c_is_factor c_is_place F_times_point⟩
    | .plus => ⟨_, _, d_POINT_RULES_plus, k_sum_point, b_sum_point, ok_sum_point_plus z c_is_place F_sum_point⟩
    | .less => ⟨_, _, d_POINT_RULES_less, k_sum_point, b_sum_point, ok_sum_point_less z c_is_place F_sum_point⟩
    | .move => ⟨_, _, d_POINT_RULES_move, k_move_point, b_move_point, ok_move_point NC z c_is_whole c_is_place F_move_point⟩
    | .keep => ⟨_, _, d_POINT_RULES_keep, k_keep_point, b_keep_point, ok_keep_point z c_is_place F_keep_point⟩⟩
  have LE : Lens w K mg A_ROW_LENGTHS es_ROW_LENGTHS dn_ROW_LENGTHS := ⟨gm_ROW_LENGTHS, KD_ROW_LENGTHS, fun k => match k with
    | .inn => ⟨_, d_ROW_LENGTHS_in⟩
    | .old => ⟨_, d_ROW_LENGTHS_old⟩
    | .times => ⟨_, d_ROW_LENGTHS_times⟩
    | .plus => ⟨_, d_ROW_LENGTHS_plus⟩
    | .less => ⟨_, d_ROW_LENGTHS_less⟩
    | .move => ⟨_, d_ROW_LENGTHS_move⟩
    | .keep => ⟨_, d_ROW_LENGTHS_keep⟩⟩
  have c_is_written_as_row : Cal l.prog w K mg base 1 "is_written_as_row" ["thing"] _ := ⟨_, _, PySem.W.mg_of X G a_is_written_as_row, k_is_written_as_row, b_is_written_as_row, ok_is_written_as_row (k := 0) LE F_is_written_as_row z⟩
  have c_row_point : Cal l.prog w K mg base 4 "row_point" ["row", "points", "given"] _ := ⟨_, _, PySem.W.mg_of X G a_row_point, k_row_point, b_row_point, ok_row_point RU NC F_row_point z c_is_written_as_row⟩
  have c_check_length : Cal l.prog w K mg base 1 "check_length" ["thing", "part", "least", "most"] _ := ⟨_, _, PySem.W.mg_of X G a_check_length, k_check_length, b_check_length, ok_check_length (k := 0) F_check_length z⟩
  have c_check_forms : Cal l.prog w K mg base 2 "check_forms" ["forms"] _ := ⟨_, _, PySem.W.mg_of X G a_check_forms, k_check_forms, b_check_forms, ok_check_forms T IC NC F_check_forms z c_check_length⟩
  have c_is_hold : Cal l.prog w K mg base 3 "is_hold" ["thing", "forms"] _ := ⟨_, _, PySem.W.mg_of X G a_is_hold, k_is_hold, b_is_hold, ok_is_hold T F_is_hold z c_is_place m_has⟩
  have c_check_holds : Cal l.prog w K mg base 4 "check_holds" ["holds", "forms"] _ := ⟨_, _, PySem.W.mg_of X G a_check_holds, k_check_holds, b_check_holds, ok_check_holds NC F_check_holds z c_check_length c_is_hold⟩
  have c_checked_points : Cal l.prog w K mg base 5 "checked_points" ["rows", "given"] _ := ⟨_, _, PySem.W.mg_of X G a_checked_points, k_checked_points, b_checked_points, ok_checked_points NC F_checked_points z c_check_length c_row_point⟩
  have c_check_links : Cal l.prog w K mg base 3 "check_links" ["holds", "rows"] _ := ⟨_, _, PySem.W.mg_of X G a_check_links, k_check_links, b_check_links, ok_check_links F_check_links z c_is_place⟩
  have c_Net_5 : CalC l.prog w K mg base 6 "Net" CN ["self", "forms", "enters", "rows", "holds", "out"] [] _ := ⟨_, _, _, ⟨mk_CN, a_Net___init__, i_Net___init__, kc_CN⟩, PySem.W.mg_of X G aC_CN, .nil, b_Net___init__, ok_Net___init__ T TN F_Net___init__ z c_check_forms c_is_place c_check_holds c_checked_points c_check_links⟩
  have n_forms : CalM l.prog w K mg base 1 CN "forms" ["self"] _ := ⟨_, _, ⟨a_Net_forms, i_Net_forms, k_Net_forms⟩, b_Net_forms, ok_Net_forms (C := C) (k := 0) TN F_Net_forms z⟩
  have n_rows : CalM l.prog w K mg base 1 CN "rows" ["self"] _ := ⟨_, _, ⟨a_Net_rows, i_Net_rows, k_Net_rows⟩, b_Net_rows, ok_Net_rows (C := C) (k := 0) TN F_Net_rows z⟩
  have n_holds : CalM l.prog w K mg base 1 CN "holds" ["self"] _ := ⟨_, _, ⟨a_Net_holds, i_Net_holds, k_Net_holds⟩, b_Net_holds, ok_Net_holds (C := C) (k := 0) TN F_Net_holds z⟩
  have n_points : CalM l.prog w K mg base 1 CN "points" ["self"] _ := ⟨_, _, ⟨a_Net_points, i_Net_points, k_Net_points⟩, b_Net_points, ok_Net_points (C := C) (k := 0) TN F_Net_points z⟩
  have n_enters : CalM l.prog w K mg base 1 CN "enters" ["self"] _ := ⟨_, _, ⟨a_Net_enters, i_Net_enters, k_Net_enters⟩, b_Net_enters, ok_Net_enters (C := C) (k := 0) TN F_Net_enters⟩
  have c_enter_form : Cal l.prog w K mg base 2 "enter_form" ["net"] _ := ⟨_, _, PySem.W.mg_of X G a_enter_form, k_enter_form, b_enter_form, ok_enter_form TN F_enter_form n_forms n_enters⟩
  have n_start : CalM l.prog w K mg base 1 CN "start" ["self"] _ := ⟨_, _, ⟨a_Net_start, i_Net_start, k_Net_start⟩, b_Net_start, ok_Net_start (C := C) (k := 0) TN F_Net_start z⟩
  have c_has_in_it : Cal l.prog w K mg base 1 "has_in_it" ["stretch", "other"] _ := ⟨_, _, PySem.W.mg_of X G a_has_in_it, k_has_in_it, b_has_in_it, ok_has_in_it (k := 0) F_has_in_it⟩
  have c_times_stretch : Cal l.prog w K mg base 1 "times_stretch" ["factor", "stretch"] _ := ⟨_, _, PySem.W.mg_of X G a_times_stretch, k_times_stretch, b_times_stretch, ok_times_stretch (k := 0) F_times_stretch z⟩
  have c_sum_stretch : Cal l.prog w K mg base 1 "sum_stretch" ["row", "stretches", "points"] _ := ⟨_, _, PySem.W.mg_of X G a_sum_stretch, k_sum_stretch, b_sum_stretch, ok_sum_stretch (k := 0) F_sum_stretch z⟩
  have c_hull : Cal l.prog w K mg base 1 "hull" ["one", "other"] _ := ⟨_, _, PySem.W.mg_of X G a_hull, k_hull, b_hull, ok_hull (k := 0) F_hull z⟩
  have c_ends_kept : Cal l.prog w K mg base 6 "ends_kept" ["form", "stretch", "point"] _ := ⟨_, _, PySem.W.mg_of X G a_ends_kept, k_ends_kept, b_ends_kept, ok_ends_kept T F_ends_kept m_kept_at⟩
  have c_is_over : Cal l.prog w K mg base 1 "is_over" ["ends"] _ := ⟨_, _, PySem.W.mg_of X G a_is_over, k_is_over, b_is_over, ok_is_over (k := 0) F_is_over⟩
  have c_all_words : Cal l.prog w K mg base 2 "all_words" ["form"] _ := ⟨_, _, PySem.W.mg_of X G a_all_words, k_all_words, b_all_words, ok_all_words T F_all_words m_least m_greatest⟩
  have c_keep_stretch : Cal l.prog w K mg base 7 "keep_stretch" ["form", "stretch", "point"] _ := ⟨_, _, PySem.W.mg_of X G a_keep_stretch, k_keep_stretch, b_keep_stretch, ok_keep_stretch T F_keep_stretch c_ends_kept c_is_over c_all_words⟩
  have okR := ok_stretch_of_row (base := base) (P := l.prog) (w := w) (C := C) F_stretch_of_row c_times_stretch c_keep_stretch c_sum_stretch
  have c_swept : Cal l.prog w K mg base 9 "swept" ["net", "heard", "held", "rule"] _ := ⟨_, _, PySem.W.mg_of X G a_swept, k_swept, b_swept, ok_swept okR k_stretch_of_row b_stretch_of_row TN F_swept n_forms n_points n_rows⟩
  have c_check_ends : Cal l.prog w K mg base 3 "check_ends" ["net", "low", "high"] _ := ⟨_, _, PySem.W.mg_of X G a_check_ends, k_check_ends, b_check_ends, ok_check_ends T F_check_ends c_enter_form m_has⟩
  have IM := many_ini (w := w) ih_CM.dfl EC_CM IC_CM
  have cx_widened : CalX l.prog w K mg base 3 "widened" ["net", "held", "stretches", "rounds", "many"] [] _ := ⟨_, _, _, PySem.W.mg_of X G a_widened, k_widened, .nil, b_widened, ok_widened T EC_CM IM TN F_widened z n_forms n_holds c_has_in_it c_hull c_all_words⟩
  have n_keeps : CalM l.prog w K mg base 1 CN "keeps" ["self"] _ := ⟨_, _, ⟨a_Net_keeps, i_Net_keeps, k_Net_keeps⟩, b_Net_keeps, ok_Net_keeps (C := C) (k := 0) TN F_Net_keeps z⟩
  have NW : OwnX K mg "NoWords" CW := ⟨PySem.W.mg_of X G aC_CW, nW_x, nW_k, nW_b, nW_t⟩
  have NSS : OwnX K mg "NoState" CS := ⟨PySem.W.mg_of X G aC_CS, nS_x, nS_k, nS_b, nS_t⟩
  have XX : Errs60 K mg CE CW CS CM CU := ⟨PySem.W.mg_of X G aC_CE, PySem.W.mg_of X G aC_CW, PySem.W.mg_of X G aC_CS, PySem.W.mg_of X G aC_CM, PySem.W.mg_of X G aC_CU, ⟨nW_ga, nW_gg, nW_b, nW_hd, nW_ha, nW_hn, nW_ht, nW_hm⟩, ⟨nS_ga, nS_gg, nS_b, nS_hd, nS_ha, nS_hn, nS_ht, nS_hm⟩, xm_W, xm_S, ki_WW, ki_WS, ki_WM, ki_WU, ki_SW, ki_SS, ki_SM, ki_SU⟩
  have cN_widened : CalN l.prog w K mg base 3 "widened" ["net", "held", "stretches", "rounds", "many"] [] _ := ⟨_, _, _, PySem.W.mg_of X G a_widened, k_widened, .nil, b_widened, ok_widenedN T EC_CM IM TN F_widened z n_forms n_holds c_has_in_it c_hull c_all_words⟩
  have cN_box : CalN l.prog w K mg base 10 "box" ["net", "low", "high", "many"] [.int 20] _ := ⟨_, _, _, PySem.W.mg_of X G a_box, k_box, dv_box3, b_box3, ok_boxN (gm_MOST_ROUNDS) (PySem.W.mg_of X G a_stretch_of_row) TN F_box z n_start c_check_ends c_is_whole c_swept cN_widened⟩
  have cx_check_ends : CalX l.prog w K mg base 3 "check_ends" ["net", "low", "high"] [] _ := ⟨_, _, _, PySem.W.mg_of X G a_check_ends, k_check_ends, .nil, b_check_ends, ok_check_endsX NW T F_check_ends c_enter_form m_has⟩
  have cx_box : CalX l.prog w K mg base 10 "box" ["net", "low", "high", "many"] [] _ := ⟨_, _, _, PySem.W.mg_of X G a_box, k_box, .nil, b_box4, ok_boxX NW (gm_MOST_ROUNDS) (PySem.W.mg_of X G a_stretch_of_row) TN F_box z n_start cx_check_ends c_is_whole c_swept cx_widened⟩
  have c_is_hold_stretch : Cal l.prog w K mg base 3 "is_hold_stretch" ["form", "word", "thing"] _ := ⟨_, _, PySem.W.mg_of X G a_is_hold_stretch, k_is_hold_stretch, b_is_hold_stretch, ok_is_hold_stretch T F_is_hold_stretch z m_has c_has_in_it⟩
  have c_are_hold_stretches : Cal l.prog w K mg base 4 "are_hold_stretches" ["net", "thing"] _ := ⟨_, _, PySem.W.mg_of X G a_are_hold_stretches, k_are_hold_stretches, b_are_hold_stretches, ok_are_hold_stretches TN F_are_hold_stretches z n_forms n_holds c_is_hold_stretch⟩
  have c_is_box : Cal l.prog w K mg base 10 "is_box" ["net", "low", "high", "holds"] _ := ⟨_, _, PySem.W.mg_of X G a_is_box, k_is_box, b_is_box, ok_is_box (PySem.W.mg_of X G a_stretch_of_row) TN F_is_box z n_holds c_check_ends c_are_hold_stretches c_swept c_has_in_it⟩
  have cx_is_box : CalX l.prog w K mg base 10 "is_box" ["net", "low", "high", "holds"] [] _ := ⟨_, _, _, PySem.W.mg_of X G a_is_box, k_is_box, .nil, b_is_box, ok_is_boxX (PySem.W.mg_of X G a_stretch_of_row) TN NW F_is_box z n_holds cx_check_ends c_are_hold_stretches c_swept c_has_in_it⟩
  have okM := ok_may_over (base := base) (P := l.prog) (w := w) (PySem.W.mg_of X G a_stretch_of_row) TN F_may_over z n_forms n_points n_rows n_keeps c_is_box c_swept c_ends_kept c_is_over
  have ck_may : CalK l.prog w K mg base 11 "may_over" ["net", "low", "high", "holds"] 0 ["holds", "high", "low", "net"] (fun vs zs => vs ++ zs.reverse) _ := ⟨_, _, _, PySem.W.mg_of X G a_may_over, k_may_over, kb_may, okM⟩
  have cx_may_over : CalX l.prog w K mg base 11 "may_over" ["net", "low", "high", "holds"] [] _ := ⟨_, _, _, PySem.W.mg_of X G a_may_over, k_may_over, .nil, b_may_over, ok_may_overX (PySem.W.mg_of X G a_stretch_of_row) TN NSS F_may_over z n_forms n_points n_rows n_keeps cx_is_box c_swept c_ends_kept c_is_over⟩
  have c__law_cell_at : Cal l.prog w K mg base 1 "_law_cell_at" ["_law_script", "_law_k"] _ := ⟨_, _, PySem.W.mg_of X G a__law_cell_at, k__law_cell_at, b__law_cell_at, ok_cell (k := 0) F__law_cell_at z.len⟩
  have c__law_well : Cal l.prog w K mg base 1 "_law_well" ["_law_cell"] _ := ⟨_, _, PySem.W.mg_of X G a__law_well, k__law_well, b__law_well, ok_well (k := 0) F__law_well z.int⟩
  have c__law_draw : Cal l.prog w K mg base 1 "_law_draw" ["_law_well_here", "_law_many"] _ := ⟨_, _, PySem.W.mg_of X G a__law_draw, k__law_draw, b__law_draw, ok_draw (k := 0) F__law_draw⟩
  have c__law_form : Cal l.prog w K mg base 2 "_law_form" ["_law_well_here", "_law_free", "_law_reach"] _ := ⟨_, _, PySem.W.mg_of X G a__law_form, k__law_form, b__law_form, ok__law_form F__law_form c__law_draw⟩
  have c__law_word : Cal l.prog w K mg base 2 "_law_word" ["_law_well_here", "_law_form_here"] _ := ⟨_, _, PySem.W.mg_of X G a__law_word, k__law_word, b__law_word, ok__law_word F__law_word c__law_draw⟩
  have c__law_row : Cal l.prog w K mg base 2 "_law_row" ["_law_well_here", "_law_count", "_law_at", "_law_free", "_law_reach", "_law_held"] _ := ⟨_, _, PySem.W.mg_of X G a__law_row, k__law_row, b__law_row, ok__law_row F__law_row c__law_draw⟩
  have c__law_begin : Cal l.prog w K mg base 2 "_law_begin" ["_law_well_here", "_law_held"] _ := ⟨_, _, PySem.W.mg_of X G a__law_begin, k__law_begin, b__law_begin, ok__law_begin F__law_begin z c__law_draw⟩
  have c__law_mixed : Cal l.prog w K mg base 2 "_law_mixed" ["_law_well_here", "_law_made_here", "_law_reach"] _ := ⟨_, _, PySem.W.mg_of X G a__law_mixed, k__law_mixed, b__law_mixed, ok__law_mixed F__law_mixed z c__law_draw⟩
  have c__law_link : Cal l.prog w K mg base 2 "_law_link" ["_law_well_here", "_law_made_here", "_law_kind", "_law_last"] _ := ⟨_, _, PySem.W.mg_of X G a__law_link, k__law_link, b__law_link, ok__law_link F__law_link z c__law_draw⟩
  have c__law_net : Cal l.prog w K mg base 3 "_law_net" ["_law_well_here"] _ := ⟨_, _, PySem.W.mg_of X G a__law_net, k__law_net, b__law_net, ok__law_net F__law_net z c__law_draw c__law_form c__law_word c__law_row c__law_begin c__law_mixed c__law_link⟩
  have c__law_made : Cal l.prog w K mg base 8 "_law_made" ["_law_house"] _ := ⟨_, _, PySem.W.mg_of X G a__law_made, k__law_made, b__law_made, ok__law_made F__law_made z c_Form_4 c_Net_5⟩
  have c__law_points : Cal l.prog w K mg base 1 "_law_points" ["_law_house"] _ := ⟨_, _, PySem.W.mg_of X G a__law_points, k__law_points, b__law_points, ok__law_points (k := 0) F__law_points z⟩
  have c__law_rounded : Cal l.prog w K mg base 1 "_law_rounded" ["_law_top", "_law_bottom", "_law_manner"] _ := ⟨_, _, PySem.W.mg_of X G a__law_rounded, k__law_rounded, b__law_rounded, ok__law_rounded (k := 0) F__law_rounded z⟩
  have c__law_kept : Cal l.prog w K mg base 2 "_law_kept" ["_law_form_here", "_law_number", "_law_point"] _ := ⟨_, _, PySem.W.mg_of X G a__law_kept, k__law_kept, b__law_kept, ok__law_kept F__law_kept z c__law_rounded⟩
  have c__law_sum : Cal l.prog w K mg base 1 "_law_sum" ["_law_points_here", "_law_row_here", "_law_found"] _ := ⟨_, _, PySem.W.mg_of X G a__law_sum, k__law_sum, b__law_sum, ok__law_sum (k := 0) F__law_sum z⟩
  have c__law_keep : Cal l.prog w K mg base 3 "_law_keep" ["_law_form_here", "_law_point", "_law_ends"] _ := ⟨_, _, PySem.W.mg_of X G a__law_keep, k__law_keep, b__law_keep, ok__law_keep F__law_keep z c__law_kept⟩
  have c__law_stretches : Cal l.prog w K mg base 4 "_law_stretches" ["_law_parts", "_law_points_here", "_law_entered", "_law_hold_list"] _ := ⟨_, _, PySem.W.mg_of X G a__law_stretches, k__law_stretches, b__law_stretches, ok__law_stretches F__law_stretches z c__law_keep c__law_sum⟩
  have c__law_whole : Cal l.prog w K mg base 1 "_law_whole" ["_law_thing"] _ := ⟨_, _, PySem.W.mg_of X G a__law_whole, k__law_whole, b__law_whole, ok__law_whole (k := 0) F__law_whole z⟩
  have c__law_is_box : Cal l.prog w K mg base 5 "_law_is_box" ["_law_parts", "_law_points_here", "_law_entered", "_law_hold_list"] _ := ⟨_, _, PySem.W.mg_of X G a__law_is_box, k__law_is_box, b__law_is_box, ok__law_is_box F__law_is_box z c__law_whole c__law_stretches⟩
  have c__law_may_over : Cal l.prog w K mg base 5 "_law_may_over" ["_law_parts", "_law_points_here", "_law_entered", "_law_hold_list"] _ := ⟨_, _, PySem.W.mg_of X G a__law_may_over, k__law_may_over, b__law_may_over, ok__law_may_over F__law_may_over z c__law_keep c__law_stretches⟩
  have c__law_all : Cal l.prog w K mg base 1 "_law_all" ["_law_parts"] _ := ⟨_, _, PySem.W.mg_of X G a__law_all, k__law_all, b__law_all, ok__law_all (k := 0) F__law_all z⟩
  have cH__law_all : CalH l.prog w K mg base 1 "_law_all" ["_law_parts"] _ := ⟨_, _, PySem.W.mg_of X G a__law_all, k__law_all, b__law_all, ok__law_allH F__law_all z⟩
  have c__law_start_box : Cal l.prog w K mg base 11 "_law_start_box" ["_law_house", "_law_parts", "_law_lowest", "_law_highest"] _ := ⟨_, _, PySem.W.mg_of X G a__law_start_box, k__law_start_box, b__law_start_box, ok__law_start_box (C := C) (CN := CN) (PySem.W.mg_of X G aC_CM) xMM F__law_start_box z c__law_all cN_box cH__law_all⟩
  have c__law_bad_words : Cal l.prog w K mg base 2 "_law_bad_words" ["_law_well_here", "_law_form_here"] _ := ⟨_, _, PySem.W.mg_of X G a__law_bad_words, k__law_bad_words, b__law_bad_words, ok__law_bad_words F__law_bad_words z c__law_draw⟩
  have c__law_forged : Cal l.prog w K mg base 2 "_law_forged" ["_law_well_here", "_law_parts", "_law_hold_list"] _ := ⟨_, _, PySem.W.mg_of X G a__law_forged, k__law_forged, b__law_forged, ok__law_forged F__law_forged z c__law_draw c__law_all⟩
  exact ok_law FC_law z XX TB_0 F__law_refused (PySem.W.mg_of X G a__law_refused) b__law_refused c__law_cell_at c__law_well c__law_net c__law_made c__law_points c__law_word c__law_all c__law_start_box c__law_forged c__law_is_box c__law_may_over c__law_bad_words c_is_box ck_may cx_may_over cx_is_box cx_box

end E1

open PySem PySem.W PySem.Calls PyProof.Rows
set_option maxRecDepth 100000 in
set_option maxHeartbeats 0 in
theorem PySem.Challenge.cw_echobound_k60_whole_boxes_forged_holds : PySem.Challenge.rw_echobound_k60_whole_boxes_forged.Holds := by
  w_on; o_law
  refine HandSHeadRun.head_any (r := OpenLaw.row PySem.Challenge.rw_echobound_k60_whole_boxes_forged) (q := HX.qv) (H := HX.hk) (ob := HX.ob) (M := 6328) (loose := HX.names) (d := HandSHeadRun.topDef (OpenLaw.row PySem.Challenge.rw_echobound_k60_whole_boxes_forged).prog 110) (kwd := []) HX.ob_eq (by kernel_rfl) (fun s => by kernel_rfl) HX.run (by kernel_rfl) (by kernel_rfl) (by kernel_rfl) (by rfl) (by first | assumption | decide +kernel) (by decide +kernel) ⟨rfl, rfl, rfl, rfl, rfl, by decide +kernel⟩ ?hw ?hc
  case hw => w_witness2
  case hc =>
    refine LamX.walk_ofTsE (l := PySem.Challenge.rw_echobound_k60_whole_boxes_forged) (n := 63) (k := 14) (x := "_law_script") (CX := fun _ => L2.CX0) rfl (by decide) (by kernel_rfl) ⟨rfl, by decide, by decide⟩ ?F (fun _ _ _ _ _ z => z)
    intro w mg fa h Y G hmg0
    obtain ⟨K, KX, c⟩ := Y
    have hmg : mg ("law" : PySem.Str) = some (.ref fa) := by
      have e : (HandSHeadRun.topDef (OpenLaw.row PySem.Challenge.rw_echobound_k60_whole_boxes_forged).prog 110).name = ("law" : PySem.Str) := by kernel_rfl
      rw [← e]
      exact hmg0
    exact ⟨K, KX, E1.all_mk (l := PySem.Challenge.rw_echobound_k60_whole_boxes_forged) rfl rfl rfl rfl rfl rfl rfl rfl rfl rfl rfl KX G hmg (by rfl) (by first | rfl | decide +kernel) c⟩
